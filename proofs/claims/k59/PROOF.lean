import PyProof.Rows.All
import Wide.All
import OpenK.AllK
import Wide.FinOn
import Lean
import PyProof.EqAt
import PyProof.EqKinds
import PyProof.TupleCall
-- CHANGE: your row's module here, as the last of these rows
import PySem.Challenge.RW_boardsight_k59_areas

set_option Elab.async false
set_option linter.all false
set_option maxRecDepth 100000
/-! THE HAND LAYER, for ints, bools, texts, own classes, LISTS and tuples (index, slices, in, append, pop ..), calls, loops. Paste it whole ahead of your own text; what your proof does not reach may be deleted. -/
namespace L2
open PySem PySem.Spec PyProof.Rows

/-- a key: an int or a str -/
abbrev Key := Sum Int Str
def keyIs : Key → Value → Bool
  | .inl k, v => Value.isInt k v
  | .inr x, v => Value.isStrOf x v
def keyH (w : World) : Key → Int
  | .inl k => hashInt k
  | .inr x => hashStr w x
theorem keyIs_shape : ∀ {k : Key} {v : Value}, keyIs k v = true → (∃ i t, k = Sum.inl i ∧ v = Value.int i t) ∨ (∃ x t, k = Sum.inr x ∧ v = Value.str x t)
  | .inl i, v, h => by
    obtain ⟨t, e⟩ := Value.isInt_shape (k := i) (v := v) h
    exact .inl ⟨i, t, rfl, e⟩
  | .inr x, v, h => by
    obtain ⟨t, e⟩ := Value.isStrOf_shape (x := x) (v := v) h
    exact .inr ⟨x, t, rfl, e⟩
theorem key_ll (a b : Int) : decide ((Sum.inl a : Key) = Sum.inl b) = (a == b) := by
  by_cases e : a = b
  · subst e; simp
  · have h : ¬ (Sum.inl a : Key) = Sum.inl b := fun q => e (Sum.inl.inj q)
    rw [decide_eq_false h]
    exact (beq_eq_false_iff_ne.mpr e).symm
theorem key_rr (a b : Str) : decide ((Sum.inr a : Key) = Sum.inr b) = decide (a = b) := by
  by_cases e : a = b
  · subst e; simp
  · have h : ¬ (Sum.inr a : Key) = Sum.inr b := fun q => e (Sum.inr.inj q)
    rw [decide_eq_false h, decide_eq_false e]
theorem key_lr (a : Int) (b : Str) : decide ((Sum.inl a : Key) = Sum.inr b) = false := decide_eq_false (fun q => nomatch q)
theorem key_rl (a : Str) (b : Int) : decide ((Sum.inr a : Key) = Sum.inl b) = false := decide_eq_false (fun q => nomatch q)

def mixKind (prog : Program) (w : World) : PySem.KeyKind prog w Key where
  is := keyIs
  hash := keyH w
  inj := fun v a b ha hb => by
    rcases keyIs_shape ha with ⟨i, t, rfl, rfl⟩ | ⟨x, t, rfl, rfl⟩
    · rcases keyIs_shape hb with ⟨j, u, rfl, e⟩ | ⟨y, u, rfl, e⟩
      · injection e with e1 _; rw [e1]
      · exact nomatch e
    · rcases keyIs_shape hb with ⟨j, u, rfl, e⟩ | ⟨y, u, rfl, e⟩
      · exact nomatch e
      · injection e with e1 _; rw [e1]
  byValue := fun k v h => by
    rcases keyIs_shape h with ⟨i, t, rfl, rfl⟩ | ⟨x, t, rfl, rfl⟩ <;> rfl
  pyHash := fun hv h => by
    rcases keyIs_shape hv with ⟨i, t, rfl, rfl⟩ | ⟨x, t, rfl, rfl⟩
    · exact wpAny_pyHash_int h
    · exact wpAny_pyHash_str h
  eqBool := fun hu hv h => by
    rcases keyIs_shape hu with ⟨i, t, rfl, rfl⟩ | ⟨x, t, rfl, rfl⟩
    · rcases keyIs_shape hv with ⟨j, u, rfl, rfl⟩ | ⟨y, u, rfl, rfl⟩
      · rw [key_ll] at h; exact wpAny_eqBool_int h
      · rw [key_lr] at h; exact SeqAt.EqAt.int_str i t y u _ _ _ _ h
    · rcases keyIs_shape hv with ⟨j, u, rfl, rfl⟩ | ⟨y, u, rfl, rfl⟩
      · rw [key_rl] at h; exact SeqAt.EqAt.str_int x t j u _ _ _ _ h
      · rw [key_rr] at h; exact wpAny_eqBool_str h
  «strs» := fun k x t v h => by
    rcases keyIs_shape h with ⟨i, u, rfl, e⟩ | ⟨y, u, rfl, e⟩
    · exact nomatch e
    · injection e with e1 _
      subst e1
      cases v <;> rfl

end L2

namespace L2
open PySem PySem.Spec PyProof.Rows

/-- a value, without the heap -/
inductive V where
  | non | bl (b : Bool) | int (i : Int) | str (x : Str) | byt (b : Array UInt8) | flt (b : UInt64) | ref (a : Addr) | ty (n : String)
  deriving DecidableEq

def RelV : V → Value → Prop
  | .non, u => u = Value.none
  | .bl b, u => u = Value.bool b
  | .int i, u => ∃ t, u = Value.int i t
  | .str x, u => ∃ t, u = Value.str x t
  | .byt b, u => ∃ t, u = Value.bytes b t
  | .flt b, u => ∃ t, u = Value.float b t
  | .ref a, u => u = Value.ref a
  | .ty n, u => u = Value.type n

abbrev Vals : List V → List Value → Prop := Paired RelV
theorem Vals.length {xs : List V} {us : List Value} (r : Vals xs us) : xs.length = us.length := Paired.length r
theorem Vals.get : ∀ {xs : List V} {us : List Value} {i : Nat} {x : V}, Vals xs us → xs[i]? = some x → ∃ u, us[i]? = some u ∧ RelV x u
  | _, _, _, _, .nil, e => by simp at e
  | _, _, 0, _, .cons r _, e => by simp at e; subst e; exact ⟨_, rfl, r⟩
  | _, _, i + 1, x, .cons _ t, e => by
    obtain ⟨u, h1, h2⟩ := Vals.get (i := i) (x := x) t (by simpa using e)
    exact ⟨u, by simpa using h1, h2⟩
theorem Vals.set {x : V} {u : Value} (r : RelV x u) : ∀ {xs : List V} {us : List Value} (i : Nat), Vals xs us → Vals (xs.set i x) (us.set i u)
  | _, _, _, .nil => .nil
  | _, _, 0, .cons _ t => .cons r t
  | _, _, i + 1, .cons q t => .cons q (Vals.set r i t)
theorem Vals.append : ∀ {xs ys : List V} {us ws : List Value}, Vals xs us → Vals ys ws → Vals (xs ++ ys) (us ++ ws)
  | _, _, _, _, .nil, s => s
  | _, _, _, _, .cons r t, s => .cons r (Vals.append t s)
theorem Vals.take : ∀ {xs : List V} {us : List Value} (n : Nat), Vals xs us → Vals (xs.take n) (us.take n)
  | _, _, 0, _ => .nil
  | _, _, _ + 1, .nil => .nil
  | _, _, n + 1, .cons r t => .cons r (Vals.take n t)
theorem Vals.drop : ∀ {xs : List V} {us : List Value} (n : Nat), Vals xs us → Vals (xs.drop n) (us.drop n)
  | _, _, 0, r => r
  | _, _, _ + 1, .nil => .nil
  | _, _, n + 1, .cons _ t => Vals.drop n t
def RelO : Option V → Option Value → Prop
  | some v, some u => RelV v u
  | none, none => True
  | _, _ => False
def KV {κ : Type} : List (κ × V) → List (κ × Value) → Prop := Paired fun (p : κ × V) (q : κ × Value) => p.1 = q.1 ∧ RelV p.2 q.2

/-- a key of a dict (00_mix): an int or a text -/
def kV : Key → V
  | .inl i => .int i
  | .inr x => .str x

/-- what stands at a tracked address -/
inductive HO where
  /-- a list -/
  | lst (xs : List V)
  /-- a tuple (never changes) -/
  | tup (xs : List V)
  /-- a dict whose keys are ints and texts; one whose keys are tuples of ints and texts (the empty one is both) -/
  | dK (kvs : List (Key × V)) | dT (kvs : List (List Key × V))
  /-- a set of ints: its members, its size -/
  | set (S : Int → Bool) (n : Nat)
  /-- an instance of the class at C, its dict at dx, its attributes -/
  | ins (C dx : Addr) (fs : List (Str × V))
  /-- the dict of the instance at x -/
  | own (x : Addr)
  /-- the dict of an exception -/
  | xd (fs : List (Str × V))
  /-- a bound method, f of x -/
  | met (f x : Addr)
  /-- a range object lo, lo + 1, .. below hi -/
  | rng (lo hi : Int)
  /-- a thing that is known to the object (the script; a dict while a loop walks it): read, never written while it is so -/
  | frz (o : Obj) (u : HO)
  /-- a code object's table -/
  | tbl (ps : Array Value)
  /-- any other thing, by what is true of its one object (a def of one's own: SetO a S n := HO.ext fun h => ..) -/
  | ext (φ : Heap → Prop)

abbrev Hp := Addr → Option HO
def upd (H : Hp) (a : Addr) (o : HO) : Hp := fun b => if b = a then some o else H b
theorem upd_same {H : Hp} {a : Addr} {o : HO} : upd H a o a = some o := by unfold upd; rw [if_pos rfl]
theorem upd_ne {H : Hp} {a b : Addr} {o : HO} (h : b ≠ a) : upd H a o b = H b := by unfold upd; rw [if_neg h]
theorem ne_of_none {H : Hp} {a b : Addr} {o : HO} (h : H a = some o) (h' : H b = none) : a ≠ b := by
  intro e; subst e; rw [h] at h'; cases h'

section
variable (P : Program) (w : World)
def ObjOk (H : Hp) (h : Heap) (a : Addr) : HO → Prop
  | .lst xs => xs.length ≤ sizeLine ∧ ∃ (its : List Value) (n : Nat), Vals xs its ∧ h.get? a = some { cls := .type "list", data := .seq its.toArray n }
  | .tup xs => xs.length ≤ sizeLine ∧ ∃ its : List Value, Vals xs its ∧ IsTup h a its.toArray
  | .dK kvs => kvs.length ≤ sizeLine ∧ (a == sysModules) = false ∧ ∃ vs, KV kvs vs ∧ h.DictOf (mixKind P w) a vs
  | .dT kvs => kvs.length ≤ sizeLine ∧ (a == sysModules) = false ∧ ∃ xs : List (List Key × Addr × Value),
      Paired (fun (p : List Key × V) (q : List Key × Addr × Value) => p.1 = q.1 ∧ H q.2.1 = some (.tup (p.1.map kV)) ∧ RelV p.2 q.2.2) kvs xs ∧
      ∃ o es ep, h.get? a = some o ∧ o.ExactDict ∧ o.data = .dict es ep ∧ es.toList = xs.map (entryOfKey (tupleKind (mixKind P w))) ∧ (xs.map (·.1)).Nodup
  | .set S n => h.SetOf (intKind P w) a S n
  | .ins C dx fs => H dx = some (.own a) ∧ fs.length ≤ 1000 ∧ dx ≠ a ∧ h.get? a = some (PySem.W.instObj C dx) ∧
      ∃ mA, h.Ns1 dx mA ∧ (∀ f, RelO (fs.lookup f) (mA f)) ∧ PySem.Within mA (fs.map (·.1))
  | .own _ => ∃ o, h.get? a = some o
  | .xd fs => ∃ mA, h.Ns1 a mA ∧ ∀ f, RelO (fs.lookup f) (mA f)
  | .rng lo hi => ∃ t u v, h.get? a = some { cls := .type "range", data := .fields #[.int lo t, .int hi u, .int 1 v] }
  | .frz o u => h.get? a = some o ∧ ObjOk H h a u
  | .tbl ps => h.get? a = some { cls := .none, data := .fields ps }
  | .met f x => h.get? a = some (PySem.W.methodObj (.ref f) (.ref x))
  | .ext φ => φ h ∧ (∃ o, h.get? a = some o) ∧ ∀ h1 h2 : Heap, φ h1 → (∀ o, h1.get? a = some o → h2.get? a = some o) → φ h2
/-- the abstract heap is held -/
def HOk (H : Hp) (h : Heap) : Prop := ∀ a o, H a = some o → ObjOk P w H h a o
end

section
variable {P : Program} {w : World} {H H' : Hp} {h h' : Heap} {a : Addr} {o : HO}
theorem ObjOk.lt (x : ObjOk P w H h a o) : a < h.objs.size := by
  cases o with
  | lst xs => obtain ⟨_, _, _, _, e⟩ := x; exact Heap.lt_size e
  | tup xs => obtain ⟨_, _, _, p⟩ := x; exact p.lt
  | dK kvs => obtain ⟨_, _, _, _, o, _, _, e, _⟩ := x; exact Heap.lt_size e
  | dT kvs => obtain ⟨_, _, _, _, o, _, _, e, _⟩ := x; exact Heap.lt_size e
  | set S n => obtain ⟨o, _, _, _, e, _⟩ := x; exact Heap.lt_size e
  | ins C dx fs => obtain ⟨_, _, _, e, _⟩ := x; exact Heap.lt_size e
  | own y => obtain ⟨_, e⟩ := x; exact Heap.lt_size e
  | xd fs => obtain ⟨_, ⟨_, _, _, e, _⟩, _⟩ := x; exact Heap.lt_size e
  | rng lo hi => obtain ⟨_, _, _, e⟩ := x; exact Heap.lt_size e
  | frz ob u => obtain ⟨e, _⟩ := x; exact Heap.lt_size e
  | tbl ps => exact Heap.lt_size (show h.get? a = some _ from x)
  | met f y => exact Heap.lt_size (show h.get? a = some _ from x)
  | ext φ => obtain ⟨_, ⟨_, e⟩, _⟩ := x; exact Heap.lt_size e
theorem Paired.mapP {α β : Type} {F G : α → β → Prop} : ∀ {l₁ : List α} {l₂ : List β}, Paired F l₁ l₂ → (∀ a b, F a b → G a b) → Paired G l₁ l₂
  | _, _, .nil, _ => .nil
  | _, _, .cons r t, f => .cons (f _ _ r) (Paired.mapP t f)
/-- what an object's description leans on: its own object, its own dict, the tuples -/
theorem ObjOk.stay (x : ObjOk P w H h a o) (k : ∀ b u, (b = a ∨ H b = some (.own a)) → h.get? b = some u → h'.get? b = some u)
    (ho : ∀ b, H b = some (.own a) → H' b = some (.own a)) (ht : ∀ b xs, H b = some (.tup xs) → H' b = some (.tup xs)) : ObjOk P w H' h' a o := by
  induction o with
  | lst xs => obtain ⟨z, its, n, r, e⟩ := x; exact ⟨z, its, n, r, k _ _ (.inl rfl) e⟩
  | tup xs => obtain ⟨z, its, r, ob, e, c⟩ := x; exact ⟨z, its, r, ob, k _ _ (.inl rfl) e, c⟩
  | dK kvs => obtain ⟨z, y, vs, r, ob, es, ep, e, c⟩ := x; exact ⟨z, y, vs, r, ob, es, ep, k _ _ (.inl rfl) e, c⟩
  | dT kvs =>
    obtain ⟨z, y, xs, r, ob, es, ep, e, c⟩ := x
    exact ⟨z, y, xs, Paired.mapP r fun p q z => ⟨z.1, ht _ _ z.2.1, z.2.2⟩, ob, es, ep, k _ _ (.inl rfl) e, c⟩
  | set S n => obtain ⟨ob, es, ep, t, e, c⟩ := x; exact ⟨ob, es, ep, t, k _ _ (.inl rfl) e, c⟩
  | ins C dx fs =>
    obtain ⟨d, z, ne, e, mA, ⟨od, es, ep, e2, c⟩, r⟩ := x
    exact ⟨ho _ d, z, ne, k _ _ (.inl rfl) e, mA, ⟨od, es, ep, k _ _ (.inr d) e2, c⟩, r⟩
  | own y => obtain ⟨ob, e⟩ := x; exact ⟨ob, k _ _ (.inl rfl) e⟩
  | xd fs => obtain ⟨mA, ⟨od, es, ep, e, c⟩, r⟩ := x; exact ⟨mA, ⟨od, es, ep, k _ _ (.inl rfl) e, c⟩, r⟩
  | rng lo hi => obtain ⟨t, u, v, e⟩ := x; exact ⟨t, u, v, k _ _ (.inl rfl) e⟩
  | frz ob u ih => obtain ⟨e, q⟩ := x; exact ⟨k _ _ (.inl rfl) e, ih q⟩
  | tbl ps =>
    have e : h.get? a = some { cls := .none, data := .fields ps } := x
    show h'.get? a = some { cls := .none, data := .fields ps }
    exact k a _ (.inl rfl) e
  | met f y =>
    have e : h.get? a = some (PySem.W.methodObj (.ref f) (.ref y)) := x
    show h'.get? a = some (PySem.W.methodObj (.ref f) (.ref y))
    exact k a _ (.inl rfl) e
  | ext φ => obtain ⟨p, ⟨o, e⟩, st⟩ := x; exact ⟨st _ _ p fun o q => k _ _ (.inl rfl) q, ⟨o, k _ _ (.inl rfl) e⟩, st⟩
theorem HOk.lt (x : HOk P w H h) (e : H a = some o) : a < h.objs.size := (x a o e).lt
theorem HOk.fresh (x : HOk P w H h) (e : h.objs.size ≤ a) : H a = none := by
  cases q : H a with
  | none => rfl
  | some u => exact absurd (Nat.lt_of_lt_of_le (x.lt q) e) (Nat.lt_irrefl _)
/-- every object of the heap is kept -/
theorem HOk.kept (x : HOk P w H h) (k : ∀ b u, h.get? b = some u → h'.get? b = some u) : HOk P w H h' := fun a o e =>
  (x a o e).stay (fun b u _ q => k b u q) (fun _ q => q) fun _ _ q => q
/-- a new object is laid and tracked -/
theorem HOk.laid (x : HOk P w H h) (k : ∀ b u, h.get? b = some u → h'.get? b = some u) (hp : h.objs.size ≤ a) (new : ObjOk P w (upd H a o) h' a o) : HOk P w (upd H a o) h' := fun b u e => by
  have hn := x.fresh hp
  by_cases hb : b = a
  · subst hb; rw [upd_same] at e; cases e; exact new
  · rw [upd_ne hb] at e
    exact (x b u e).stay (fun c v _ q => k c v q) (fun c q => by rw [upd_ne (ne_of_none q hn)]; exact q) fun c xs q => by rw [upd_ne (ne_of_none q hn)]; exact q
end

/-- what may be read as u: it is u, or a known u -/
def Rd (H : Hp) (a : Addr) (u : HO) : Prop := H a = some u ∨ ∃ o, H a = some (.frz o u)
theorem Rd.of {H : Hp} {a : Addr} {u : HO} (h : H a = some u) : Rd H a u := .inl h
theorem Rd.ok {P : Program} {w : World} {H : Hp} {h : Heap} {a : Addr} {u : HO} (r : Rd H a u) (x : HOk P w H h) : ObjOk P w H h a u := by
  rcases r with r | ⟨o, r⟩
  · exact x a u r
  · obtain ⟨_, q⟩ := x a _ r
    exact q
/-- what may be written -/
def Mut : Option HO → Prop
  | some (.lst _) => True
  | some (.dK _) => True
  | some (.dT _) => True
  | some (.set _ _) => True
  | some (.ins _ _ _) => True
  | some (.ext _) => True
  | _ => False
section
variable {P : Program} {w : World} {H : Hp} {h h' : Heap} {x e : Addr} {o' : HO}
/-- the object at e is changed: x itself, or the dict of the instance x -/
theorem HOk.write (ok : HOk P w H h) (mu : Mut (H x)) (he : e = x ∨ H e = some (.own x)) (k : ∀ b u, b ≠ e → h.get? b = some u → h'.get? b = some u) (heo : ∃ u, h'.get? e = some u)
    (new : ObjOk P w (upd H x o') h' x o') : HOk P w (upd H x o') h' := fun b u q => by
  have nown : ∀ c y, H c = some (.own y) → c ≠ x := fun c y r z => by subst z; rw [r] at mu; exact mu
  have ntup : ∀ c xs, H c = some (.tup xs) → c ≠ x := fun c xs r z => by subst z; rw [r] at mu; exact mu
  by_cases hb : b = x
  · subst hb; rw [upd_same] at q; cases q; exact new
  · rw [upd_ne hb] at q
    by_cases hbe : b = e
    · have q' : H b = some (.own x) := by
        rcases he with z | z
        · exact absurd (hbe.trans z) hb
        · rw [hbe]; exact z
      rw [q] at q'; cases q'
      obtain ⟨v, hv⟩ := heo
      exact ⟨v, by rw [hbe]; exact hv⟩
    · refine (ok b u q).stay (fun c v hc r => k c v ?_ r) (fun c r => by rw [upd_ne (nown c b r)]; exact r) fun c xs r => by rw [upd_ne (ntup c xs r)]; exact r
      rcases hc with rfl | hc
      · exact hbe
      · rintro rfl
        rcases he with z | z
        · exact nown c b hc z
        · rw [hc] at z; cases z; exact hb rfl
end

/-! ### kept unless tracked; of the frames at fs (the callers') the slots may change (an exception that passes writes there); of the records at ex (iterators) nothing is said -/
structure Un (fs ex : List Addr) (H H' : Hp) (h h' : Heap) : Prop where
  keep : ∀ b o, h.get? b = some o → H b = none → b ∉ fs → b ∉ ex → h'.get? b = some o
  slot : ∀ b o, h.get? b = some o → H b = none → b ∈ fs → b ∉ ex → ∃ sl, h'.get? b = some { o with slots := sl }
  free : ∀ b o, h.get? b = some o → H b = none → b ∉ ex → H' b = none
  there : ∀ b o, h.get? b = some o → b ∉ ex → ∃ o', h'.get? b = some o'
  tups : ∀ b xs, H b = some (.tup xs) → H' b = some (.tup xs)
  frzs : ∀ b o u, H b = some (.frz o u) → H' b = some (.frz o u)
  tbls : ∀ b ps, H b = some (.tbl ps) → ∃ more, H' b = some (.tbl (ps ++ more))
section
variable {fs fs' ex ex' : List Addr} {H H1 H2 : Hp} {h h1 h2 h' : Heap} {a x e : Addr} {o : HO}
theorem Un.any (u : Un fs ex H H1 h h1) {b : Addr} {ob : Obj} (q : h.get? b = some ob) (n : H b = none) (hx : b ∉ ex) : ∃ sl, h1.get? b = some { ob with slots := sl } := by
  by_cases hb : b ∈ fs
  · exact u.slot b ob q n hb hx
  · exact ⟨ob.slots, u.keep b ob q n hb hx⟩
theorem Un.trans (a : Un fs ex H H1 h h1) (b : Un fs ex H1 H2 h1 h2) : Un fs ex H H2 h h2 where
  keep := fun c ob q n hc hx => b.keep c ob (a.keep c ob q n hc hx) (a.free c ob q n hx) hc hx
  slot := fun c ob q n hc hx => by
    obtain ⟨sl, e1⟩ := a.slot c ob q n hc hx
    obtain ⟨sl', e2⟩ := b.slot c _ e1 (a.free c ob q n hx) hc hx
    exact ⟨sl', e2⟩
  free := fun c ob q n hx => by
    obtain ⟨o', e1⟩ := a.there c ob q hx
    exact b.free c o' e1 (a.free c ob q n hx) hx
  there := fun c ob q hx => by
    obtain ⟨o', e1⟩ := a.there c ob q hx
    exact b.there c o' e1 hx
  tups := fun c xs q => b.tups c xs (a.tups c xs q)
  frzs := fun c ob xs q => b.frzs c ob xs (a.frzs c ob xs q)
  tbls := fun c ps q => by
    obtain ⟨m1, e1⟩ := a.tbls c ps q
    obtain ⟨m2, e2⟩ := b.tbls c _ e1
    exact ⟨m1 ++ m2, by rw [e2, Array.append_assoc]⟩
theorem Un.kept (k : ∀ b u, h.get? b = some u → h'.get? b = some u) : Un fs ex H H h h' :=
  ⟨fun b ob q _ _ _ => k b ob q, fun b ob q _ _ _ => ⟨ob.slots, k b ob q⟩, fun _ _ _ n _ => n, fun b ob q _ => ⟨ob, k b ob q⟩, fun _ _ q => q, fun _ _ _ q => q, fun _ ps q => ⟨#[], by rw [q]; simp⟩⟩
theorem Un.refl : Un fs ex H H h h := Un.kept fun _ _ q => q
theorem Un.laid (k : ∀ b u, h.get? b = some u → h'.get? b = some u) (hp : h.objs.size ≤ a) (hn : H a = none) : Un fs ex H (upd H a o) h h' where
  keep := fun b u q _ _ _ => k b u q
  slot := fun b u q _ _ _ => ⟨u.slots, k b u q⟩
  free := fun b u q n _ => by rw [upd_ne (Nat.ne_of_lt (Nat.lt_of_lt_of_le (Heap.lt_size q) hp))]; exact n
  there := fun b u q _ => ⟨u, k b u q⟩
  tups := fun b xs q => by rw [upd_ne (ne_of_none q hn)]; exact q
  frzs := fun b u xs q => by rw [upd_ne (ne_of_none q hn)]; exact q
  tbls := fun b ps q => ⟨#[], by rw [upd_ne (ne_of_none q hn), q]; simp⟩
theorem Un.write (mu : Mut (H x)) (he : e = x ∨ H e = some (.own x)) (k : ∀ b u, b ≠ e → h.get? b = some u → h'.get? b = some u) (heo : ∃ u, h'.get? e = some u) : Un fs ex H (upd H x o) h h' := by
  have hx : ∀ b, H b = none → b ≠ x := fun b n z => by subst z; rw [n] at mu; exact mu
  have hb : ∀ b, H b = none → b ≠ e := fun b n z => by
    subst z
    rcases he with r | r
    · exact hx b n r
    · rw [n] at r; cases r
  have hm : ∀ b u, H b = some u → ¬ Mut (some u) → b ≠ x := fun b u q nm z => by subst z; rw [q] at mu; exact nm mu
  refine ⟨fun b u q n _ _ => k b u (hb b n) q, fun b u q n _ _ => ⟨u.slots, k b u (hb b n) q⟩, fun b u q n _ => by rw [upd_ne (hx b n)]; exact n, fun b u q _ => ?_,
    fun b xs q => by rw [upd_ne (hm b _ q fun z => z)]; exact q, fun b u xs q => by rw [upd_ne (hm b _ q fun z => z)]; exact q, fun b ps q => ⟨#[], by rw [upd_ne (hm b _ q fun z => z), q]; simp⟩⟩
  by_cases hbe : b = e
  · subst hbe; exact heo
  · exact ⟨u, k b u hbe q⟩
theorem Un.mono (u : Un fs ex H H1 h h1) (hs : ∀ b ∈ fs, b ∈ fs') (hx : ∀ b ∈ ex, b ∈ ex') : Un fs' ex' H H1 h h1 :=
  ⟨fun b ob q n hb he => u.keep b ob q n (fun z => hb (hs b z)) fun z => he (hx b z), fun _ _ q n _ he => u.any q n fun z => he (hx _ z), fun b ob q n he => u.free b ob q n fun z => he (hx b z), fun b ob q he => u.there b ob q fun z => he (hx b z), u.tups, u.frzs, u.tbls⟩
end

/-! ### the heap without what is tracked -/
def trk (h : Heap) (H : Hp) : List Addr := (List.range h.objs.size).filter fun a => (H a).isSome
def hidT (h : Heap) (H : Hp) : Heap := PySem.W.hideAll h (trk h H)
theorem hidT_size (h : Heap) (H : Hp) : (hidT h H).objs.size = h.objs.size := PySem.W.hideAll_size _ _
theorem hidT_get {h : Heap} {H : Hp} {b : Addr} {o : Obj} (e : h.get? b = some o) (n : H b = none) : (hidT h H).get? b = some o :=
  PySem.W.hideAll_get _ e fun hm => by
    have q : (H b).isSome = true := (List.mem_filter.mp hm).2
    rw [n] at q; simp at q
theorem of_hidT {h : Heap} {H : Hp} {b : Addr} {o : Obj} (e : (hidT h H).get? b = some o) : h.get? b = some o ∧ H b = none := by
  have e' : h.get? b = some o := PySem.W.of_hideAll (trk h H) e
  refine ⟨e', ?_⟩
  cases q : H b with
  | none => rfl
  | some x =>
    have hm : b ∈ trk h H := List.mem_filter.mpr ⟨List.mem_range.mpr (Heap.lt_size e'), by simp [q]⟩
    have z : (hidT h H).get? b = none := PySem.W.hideAll_none (trk h H) hm
    rw [z] at e; cases e

/-! ### OpenK's ledger, filled with every new object but one -/
def allNews (g h : Heap) (L : Addr) : List (Addr × Obj) := (List.range h.objs.size).filterMap fun a => if a = L ∨ (g.get? a).isSome = true then none else (h.get? a).map fun o => (a, o)
def rest (g h : Heap) (L d : Addr) : List (Addr × Obj) := (allNews g h L).filter fun p => decide (p.1 ≠ d)
end L2

namespace L2
open PySem PySem.Spec PyProof.Rows

/-- the module's facts, over the base: the heap at the law's entry without what is tracked there -/
structure Mod (K : PySem.W.Frag) (mg : Str → Option Value) (base : Heap) : Prop where
  kin : K.In base
  glob : base.Ns mainGlobals mg
  blt : ∃ mb, base.Ns builtinsNs mb ∧ ∀ x : Str, x ≠ "__name__" → mb x = bootBuiltins x
  nolimit : base.NoLimit

/-- the context: a def's body (or a comprehension's block) running. base: fixed through the whole law; s₀, H₀: the entry; outer: the frames whose slots others may change (a def's callers); stack: all frames that run;
   ex: iterators that were made ahead of the entry and are walked here (a comprehension's); fn: the names whose cells were made at the entry (a def: all; a comprehension's block: its own); calm: not within an except suite; pn: pins that every state bears; xe: what is wanted of an exception that leaves the code -/
structure Cx where
  prog : Program
  w : World
  K : PySem.W.Frag
  mg : Str → Option Value
  base : Heap
  A : Around
  N : List Str
  s₀ : Shared
  H₀ : Hp
  env : Env
  outer : List Env
  stack : List Env
  ex : List Addr
  fn : Str → Bool
  calm : Bool
  pn : List (Addr × Obj)
  xe : Value → Shared → Prop
/-- the callers' frames -/
def frs (l : List Env) : List Addr := l.filterMap (·.frame)
abbrev Cx.fs (X : Cx) : List Addr := frs X.outer

def Vis (sc : Scope) (x : Str) : Prop := sc.names.lookup x = some .local ∨ sc.names.lookup x = some .cell ∨ sc.names.lookup x = some .free
def Loc (sc : Scope) (x : Str) : Prop := sc.names.lookup x = some .local ∨ sc.names.lookup x = some .cell
def Look (env : Env) (h : Heap) (m : Str → Option Value) (x : Str) (u : Value) : Prop :=
  (env.kindOf x = some .local ∧ m x = some u) ∨ ((env.kindOf x = some .cell ∨ env.kindOf x = some .free) ∧ ∃ c, env.cells.lookup x = some c ∧ h.IsCell c (some u))

structure Cx.Ok (X : Cx) : Prop where
  mod : Mod X.K X.mg X.base
  kind : X.env.scope.kind = .function
  glob : X.env.globals = mainGlobals
  blt : X.env.builtins = builtinsNs
  above : X.s₀.heap.objs.size ≤ X.env.locals
  inj : ∀ x y c, X.env.cells.lookup x = some c → X.env.cells.lookup y = some c → x = y
  has : ∀ x, (X.env.kindOf x = some .cell ∨ X.env.kindOf x = some .free) → ∃ c, X.env.cells.lookup x = some c
  cab : ∀ x c, X.fn x = true → X.env.cells.lookup x = some c → X.s₀.heap.objs.size ≤ c
  hd : X.calm = true → X.A.handled = none
  frames : X.A.frames = some X.stack
  stk : X.stack = X.outer ∨ (X.stack = X.env :: X.outer ∧ X.env.frame = some X.env.locals)
  exf : ∀ b ∈ X.ex, b ≠ X.env.locals ∧ ∀ x c, X.env.cells.lookup x = some c → c ≠ b
  bs : ∀ b o, X.base.get? b = some o → X.s₀.heap.get? b = some o ∧ X.H₀ b = none
  bsz : X.base.objs.size ≤ X.s₀.heap.objs.size
  noex : ∀ b o, X.base.get? b = some o → b ∉ X.ex
  exfs : ∀ b ∈ X.ex, b ∉ X.fs
  funs : X.s₀.heap.FunFrames X.base X.outer
  frf : ∀ b ∈ X.fs, X.H₀ b = none

structure Inv (X : Cx) (pins : List (Addr × Obj)) (σ : List (Option V)) (H : Hp) (s : Shared) : Prop where
  ok : X.Ok
  os : s.os = X.s₀.os
  bare : AllBare s.gens
  base : Un X.fs X.ex X.H₀ H X.s₀.heap s.heap
  loc : ∃ m, s.heap.Ns X.env.locals m ∧ ∀ (i : Nat) (x : Str) (v : V), X.N[i]? = some x → σ[i]? = some (some v) → Vis X.env.scope x → ∃ u, RelV v u ∧ Look X.env s.heap m x u
  cell : ∀ x c, X.env.cells.lookup x = some c → ∃ v, s.heap.IsCell c v
  free : H X.env.locals = none
  freeC : ∀ x c, X.env.cells.lookup x = some c → H c = none
  pin : ∀ p ∈ X.pn ++ pins, s.heap.get? p.1 = some p.2 ∧ H p.1 = none ∧ p.1 ≠ X.env.locals ∧ p.1 ∉ X.fs ∧ ∀ v, p.2.data ≠ .cell v
  hok : HOk X.prog X.w H s.heap
  len : σ.length = X.N.length

section
variable {X : Cx} {pins : List (Addr × Obj)} {σ : List (Option V)} {H H' : Hp} {s : Shared} {h' : Heap}

theorem Cx.Ok.nofr (ok : X.Ok) {b : Addr} {o : Obj} (e : X.base.get? b = some o) : b ∉ X.fs := fun hb => by
  have := (ok.funs.mem hb).1
  rw [e] at this; cases this
theorem Inv.bs (I : Inv X pins σ H s) : ∀ b o, X.base.get? b = some o → s.heap.get? b = some o ∧ H b = none := fun b o e =>
  ⟨I.base.keep b o (I.ok.bs b o e).1 (I.ok.bs b o e).2 (I.ok.nofr e) (I.ok.noex b o e), I.base.free b o (I.ok.bs b o e).1 (I.ok.bs b o e).2 (I.ok.noex b o e)⟩
theorem Inv.bk (I : Inv X pins σ H s) : ∀ b o, X.base.get? b = some o → s.heap.get? b = some o := fun b o e => (I.bs b o e).1
theorem Inv.mod (I : Inv X pins σ H s) : Mod X.K X.mg X.base := I.ok.mod
theorem Inv.kIn (I : Inv X pins σ H s) : X.K.In s.heap := I.ok.mod.kin.keeps I.bk
theorem Inv.nolimit (I : Inv X pins σ H s) : s.heap.NoLimit := I.ok.mod.nolimit.keeps I.bk
/-- the frame over the base: for OpenK's rules (K.In X.base is I.mod.kin) -/
theorem Inv.fr (I : Inv X pins σ H s) : ∃ m, Fr X.base X.env.locals s.heap m :=
  let ⟨m, hn, _⟩ := I.loc
  ⟨m, hn, I.bk, Nat.le_trans I.ok.bsz I.ok.above⟩
theorem Inv.lt (I : Inv X pins σ H s) : X.env.locals < s.heap.objs.size := let ⟨_, hn, _⟩ := I.loc; hn.lt
theorem Inv.sz (I : Inv X pins σ H s) : X.s₀.heap.objs.size ≤ s.heap.objs.size := Nat.le_trans I.ok.above (Nat.le_of_lt I.lt)
theorem Inv.nofs (I : Inv X pins σ H s) {a : Addr} (h : s.heap.objs.size ≤ a) : a ∉ X.fs := fun hb => by
  obtain ⟨_, o, ho, _⟩ := I.ok.funs.mem hb
  exact absurd (Nat.lt_of_lt_of_le (Heap.lt_size ho) (Nat.le_trans I.sz h)) (Nat.lt_irrefl _)
theorem Inv.cne (I : Inv X pins σ H s) : ∀ x c, X.env.cells.lookup x = some c → c ≠ X.env.locals := fun x c e z => by
  obtain ⟨v, o, ho, hd⟩ := I.cell x c e
  obtain ⟨m, ⟨o', es, ep, ho', hd', _⟩, _⟩ := I.loc
  rw [z, ho'] at ho; cases ho; rw [hd'] at hd; cases hd
theorem Inv.funs (I : Inv X pins σ H s) : s.heap.FunFrames X.base X.outer := by
  have all : ∀ (l : List Env), (∀ b ∈ frs l, b ∈ X.fs) → X.s₀.heap.FunFrames X.base l → s.heap.FunFrames X.base l := by
    intro l
    induction l with
    | nil => intro _ _; trivial
    | cons env r ih =>
      intro hs hl
      obtain ⟨hk, ⟨L, o, hf, hn, ho, hd⟩, hr⟩ := hl
      have hL : L ∈ X.fs := hs L (by unfold frs; rw [List.filterMap_cons, hf]; exact List.mem_cons_self)
      obtain ⟨sl, e⟩ := I.base.slot L o ho (I.ok.frf L hL) hL fun z => I.ok.exfs L z hL
      exact ⟨hk, ⟨L, _, hf, hn, e, hd⟩, ih (fun b hb => hs b (by unfold frs; rw [List.filterMap_cons, hf]; exact List.mem_cons_of_mem _ hb)) hr⟩
  exact all X.outer (fun _ hb => hb) I.ok.funs

/-- the frames that run, for a call -/
theorem Inv.stack (I : Inv X pins σ H s) : s.heap.FunFrames X.base X.stack := by
  rcases I.ok.stk with e | ⟨e, hf⟩
  · rw [e]; exact I.funs
  · rw [e]
    obtain ⟨m, hn, _⟩ := I.loc
    refine .cons (by rw [I.ok.kind]; decide) hf hn ?_ I.funs
    exact Heap.get?_none_of_le (Nat.le_trans I.ok.bsz I.ok.above)
theorem Inv.stkSub (I : Inv X pins σ H s) : ∀ b ∈ frs X.stack, b ∈ X.env.locals :: X.fs := fun b hb => by
  rcases I.ok.stk with e | ⟨e, hf⟩
  · rw [e] at hb; exact List.mem_cons_of_mem _ hb
  · rw [e] at hb
    unfold frs at hb
    rw [List.filterMap_cons, hf] at hb
    exact hb
theorem Inv.stkFree (I : Inv X pins σ H s) : ∀ b ∈ frs X.stack, H b = none := fun b hb => by
  rcases List.mem_cons.mp (I.stkSub b hb) with e | hb
  · rw [e]; exact I.free
  · obtain ⟨_, o, ho, _⟩ := I.ok.funs.mem hb
    exact I.base.free b o ho (I.ok.frf b hb) fun z => I.ok.exfs b z hb

/-- THE STEP: the untracked objects but the frame and the records at ch are kept (the callers' frames up to slots), the frame's map is kept, the new abstract heap is held -/
theorem Inv.step {g' : Array GenState} {t' : Nat} {d' : Drawn} {ch : List Addr} (I : Inv X pins σ H s)
    (hch : ∀ b ∈ ch, (b ∈ X.ex ∨ X.s₀.heap.objs.size ≤ b) ∧ b ≠ X.env.locals ∧ (∀ x c, X.env.cells.lookup x = some c → c ≠ b) ∧ ∀ p ∈ X.pn ++ pins, p.1 ≠ b)
    (keep : ∀ b o, b ≠ X.env.locals → b ∉ X.fs → b ∉ ch → s.heap.get? b = some o → H b = none → h'.get? b = some o)
    (slot : ∀ b o, b ≠ X.env.locals → b ∈ X.fs → b ∉ ch → s.heap.get? b = some o → H b = none → ∃ sl, h'.get? b = some { o with slots := sl }) (free : ∀ b o, b ∉ ch → s.heap.get? b = some o → H b = none → H' b = none)
    (there : ∀ b o, b ∉ ch → s.heap.get? b = some o → ∃ o', h'.get? b = some o')
    (tups : ∀ b xs, H b = some (.tup xs) → H' b = some (.tup xs)) (frzs : ∀ b o u, H b = some (.frz o u) → H' b = some (.frz o u)) (tbls : ∀ b ps, H b = some (.tbl ps) → ∃ more, H' b = some (.tbl (ps ++ more)))
    (ns : ∀ m, s.heap.Ns X.env.locals m → h'.Ns X.env.locals m) (hok : HOk X.prog X.w H' h') (hg : AllBare g') :
    Inv X pins σ H' { s with heap := h', gens := g', drawn := d', toks := t' } := by
  have neL : ∀ b o, X.s₀.heap.get? b = some o → b ≠ X.env.locals := fun b o e => Nat.ne_of_lt (Nat.lt_of_lt_of_le (Heap.lt_size e) I.ok.above)
  have neC : ∀ b o, X.s₀.heap.get? b = some o → b ∉ X.ex → b ∉ ch := fun b o e hx hb => by
    rcases (hch b hb).1 with z | z
    · exact hx z
    · exact absurd (Nat.lt_of_lt_of_le (Heap.lt_size e) z) (Nat.lt_irrefl _)
  have cellK : ∀ x c, X.env.cells.lookup x = some c → ∀ v, s.heap.IsCell c v → h'.IsCell c v := fun x c e v ⟨o, ho, hd⟩ => by
    have nch : c ∉ ch := fun z => (hch c z).2.2.1 x c e rfl
    by_cases hc : c ∈ X.fs
    · obtain ⟨sl, q⟩ := slot c o (I.cne x c e) hc nch ho (I.freeC x c e)
      exact ⟨_, q, hd⟩
    · exact ⟨o, keep c o (I.cne x c e) hc nch ho (I.freeC x c e), hd⟩
  refine ⟨I.ok, I.os, hg, ⟨fun b o e n hb hx => ?_, fun b o e n hb hx => ?_, fun b o e n hx => ?_, fun b o e hx => ?_, fun b xs e => tups b xs (I.base.tups b xs e), fun b o xs e => frzs b o xs (I.base.frzs b o xs e), fun b ps e => ?_⟩, ?_, fun x c e => ?_, ?_, fun x c e => ?_, fun p hp => ?_, hok, I.len⟩
  · exact keep b o (neL b o e) hb (neC b o e hx) (I.base.keep b o e n hb hx) (I.base.free b o e n hx)
  · obtain ⟨sl, e1⟩ := I.base.slot b o e n hb hx
    obtain ⟨sl', e2⟩ := slot b _ (neL b o e) hb (neC b o e hx) e1 (I.base.free b o e n hx)
    exact ⟨sl', e2⟩
  · obtain ⟨o', e1⟩ := I.base.there b o e hx
    exact free b o' (neC b o e hx) e1 (I.base.free b o e n hx)
  · obtain ⟨o', e1⟩ := I.base.there b o e hx
    exact there b o' (neC b o e hx) e1
  · obtain ⟨m1, e1⟩ := I.base.tbls b ps e
    obtain ⟨m2, e2⟩ := tbls b _ e1
    exact ⟨m1 ++ m2, by rw [e2, Array.append_assoc]⟩
  · obtain ⟨m, hn, hl⟩ := I.loc
    refine ⟨m, ns m hn, fun i x v e1 e2 e3 => ?_⟩
    obtain ⟨u, r, l⟩ := hl i x v e1 e2 e3
    refine ⟨u, r, ?_⟩
    rcases l with l | ⟨k, c, e, z⟩
    · exact .inl l
    · exact .inr ⟨k, c, e, cellK x c e _ z⟩
  · obtain ⟨v, z⟩ := I.cell x c e
    exact ⟨v, cellK x c e v z⟩
  · obtain ⟨m, ⟨o, _, _, ho, _⟩, _⟩ := I.loc
    exact free _ o (fun z => (hch _ z).2.1 rfl) ho I.free
  · obtain ⟨v, o, ho, hd⟩ := I.cell x c e
    exact free c o (fun z => (hch c z).2.2.1 x c e rfl) ho (I.freeC x c e)
  · obtain ⟨e, n, ne, nf, d⟩ := I.pin p hp
    have nch : p.1 ∉ ch := fun z => (hch p.1 z).2.2.2 p hp rfl
    exact ⟨keep p.1 p.2 ne nf nch e n, free p.1 p.2 nch e n, ne, nf, d⟩
/-- .. where the frame's own object is kept too -/
theorem Inv.un {t' : Nat} (I : Inv X pins σ H s) (u : Un X.fs [] H H' s.heap h') (hok : HOk X.prog X.w H' h') : Inv X pins σ H' { s with heap := h', toks := t' } := by
  obtain ⟨m, ⟨o, es, ep, ho, r⟩, _⟩ := id I.loc
  obtain ⟨sl, hL⟩ := u.any ho I.free (by simp)
  exact I.step (g' := s.gens) (d' := s.drawn) (ch := []) (fun _ z => nomatch z) (fun b o _ hb _ e n => u.keep b o e n hb (by simp)) (fun b o _ hb _ e n => u.slot b o e n hb (by simp)) (fun b o _ e n => u.free b o e n (by simp)) (fun b o _ e => u.there b o e (by simp)) u.tups u.frzs u.tbls (fun m' hm => by
    obtain ⟨o', es', ep', ho', r'⟩ := hm
    rw [ho] at ho'; cases ho'
    exact ⟨_, es', ep', hL, r'⟩) hok I.bare
/-- behind a call (or a comprehension's block): the slots of this frame may have changed too, the records at ch may have turned -/
theorem Inv.call {g' : Array GenState} {t' : Nat} {d' : Drawn} {ch : List Addr} (I : Inv X pins σ H s) (u : Un (frs X.stack) ch H H' s.heap h') (hok : HOk X.prog X.w H' h') (hg : AllBare g')
    (hch : ∀ b ∈ ch, (b ∈ X.ex ∨ X.s₀.heap.objs.size ≤ b) ∧ b ≠ X.env.locals ∧ (∀ x c, X.env.cells.lookup x = some c → c ≠ b) ∧ ∀ p ∈ X.pn ++ pins, p.1 ≠ b) :
    Inv X pins σ H' { s with heap := h', gens := g', drawn := d', toks := t' } := by
  obtain ⟨m, ⟨o, es, ep, ho, r⟩, _⟩ := id I.loc
  obtain ⟨sl, hL⟩ := u.any ho I.free fun z => (hch _ z).2.1 rfl
  exact I.step (ch := ch) hch (fun b o hL hb hc e n => u.keep b o e n (fun z => (List.mem_cons.mp (I.stkSub b z)).elim hL hb) hc) (fun b o _ _ hc e n => u.any e n hc) (fun b o hc e n => u.free b o e n hc) (fun b o hc e => u.there b o e hc) u.tups u.frzs u.tbls (fun m' hm => by
    obtain ⟨o', es', ep', ho', r'⟩ := hm
    rw [ho] at ho'; cases ho'
    exact ⟨_, es', ep', hL, r'⟩) hok hg
/-- an untracked record of ours (an iterator) has turned -/
theorem Inv.turned {t' : Nat} {it : Addr} (I : Inv X pins σ H s) (k : ∀ b o, b ≠ it → s.heap.get? b = some o → h'.get? b = some o) (hn : H it = none) (hL : it ≠ X.env.locals)
    (h1 : it ∈ X.ex ∨ X.s₀.heap.objs.size ≤ it) (h2 : ∀ x c, X.env.cells.lookup x = some c → c ≠ it) (h3 : ∀ p ∈ X.pn ++ pins, p.1 ≠ it) : Inv X pins σ H { s with heap := h', toks := t' } := by
  have nit : ∀ b u, H b = some u → b ≠ it := fun b u e z => by rw [z, hn] at e; cases e
  refine I.step (g' := s.gens) (d' := s.drawn) (ch := [it]) (fun b hb => ?_) (fun b o _ _ hc e _ => k b o (fun z => hc (by simp [z])) e) (fun b o _ _ hc e _ => ⟨o.slots, k b o (fun z => hc (by simp [z])) e⟩) (fun _ _ _ _ n => n)
    (fun b o hc e => ⟨o, k b o (fun z => hc (by simp [z])) e⟩) (fun _ _ e => e) (fun _ _ _ e => e) (fun b ps e => ⟨#[], by rw [e]; simp⟩) (fun m hm => ?_) (fun b u e => ?_) I.bare
  · have e : b = it := by simpa using hb
    subst e
    exact ⟨h1, hL, h2, h3⟩
  · obtain ⟨o, es, ep, ho, r⟩ := hm
    exact ⟨o, es, ep, k _ o (Ne.symm hL) ho, r⟩
  · refine (I.hok b u e).stay (fun c v hc q => k c v ?_ q) (fun _ q => q) fun _ _ q => q
    rcases hc with z | z
    · rw [z]; exact nit b u e
    · exact nit c _ z
theorem Inv.tok (I : Inv X pins σ H s) (t : Nat) : Inv X pins σ H { s with toks := t } := I.un (h' := s.heap) (t' := t) Un.refl I.hok
/-- all objects kept -/
theorem Inv.kept {t' : Nat} (I : Inv X pins σ H s) (k : ∀ b u, s.heap.get? b = some u → h'.get? b = some u) : Inv X pins σ H { s with heap := h', toks := t' } := I.un (Un.kept k) (I.hok.kept k)
/-- a new object laid and tracked -/
theorem Inv.laid {a : Addr} {o : HO} {t' : Nat} (I : Inv X pins σ H s) (k : ∀ b u, s.heap.get? b = some u → h'.get? b = some u) (hp : s.heap.objs.size ≤ a) (new : ObjOk X.prog X.w (upd H a o) h' a o) :
    Inv X pins σ (upd H a o) { s with heap := h', toks := t' } := I.un (Un.laid k hp (I.hok.fresh hp)) (I.hok.laid k hp new)
/-- an object written -/
theorem Inv.write {x e : Addr} {o : HO} {t' : Nat} (I : Inv X pins σ H s) (mu : Mut (H x)) (he : e = x ∨ H e = some (.own x)) (k : ∀ b u, b ≠ e → s.heap.get? b = some u → h'.get? b = some u) (heo : ∃ u, h'.get? e = some u)
    (new : ObjOk X.prog X.w (upd H x o) h' x o) : Inv X pins σ (upd H x o) { s with heap := h', toks := t' } := I.un (Un.write mu he k heo) (I.hok.write mu he k heo new)
theorem Inv.pins_of {pins' : List (Addr × Obj)} (I : Inv X pins σ H s) (h : ∀ p ∈ pins', s.heap.get? p.1 = some p.2 ∧ H p.1 = none ∧ p.1 ≠ X.env.locals ∧ p.1 ∉ X.fs ∧ ∀ v, p.2.data ≠ .cell v) : Inv X pins' σ H s :=
  ⟨I.ok, I.os, I.bare, I.base, I.loc, I.cell, I.free, I.freeC, fun p hp => (List.mem_append.mp hp).elim (fun z => I.pin p (List.mem_append_left _ z)) (h p), I.hok, I.len⟩

theorem nodup_ix {N : List Str} (hN : N.Nodup) {i j : Nat} {x : Str} (a : N[i]? = some x) (b : N[j]? = some x) : i = j := by
  obtain ⟨h1, e1⟩ := List.getElem?_eq_some_iff.mp a
  obtain ⟨h2, e2⟩ := List.getElem?_eq_some_iff.mp b
  exact (List.getElem_inj hN).mp (e1.trans e2.symm)

/-- a name is stored; what changed -/
theorem store_ok2 {M : Model} {A : Around} {E : Value → Shared → Prop} {i : Nat} {x : Str} {v : V} {u : Value} {Q : Unit → Shared → Prop} (I : Inv X pins σ H s) (hN : X.N.Nodup) (hi : X.N[i]? = some x) (hx : Loc X.env.scope x) (r : RelV v u)
    (h : ∀ s', Inv X pins (σ.set i (some v)) H s' → (∃ a, Heap.SameBut a s.heap s'.heap ∧ (a = X.env.locals ∨ X.env.cells.lookup x = some a)) → Q () s') (hf : X.fn x = true ∨ X.env.scope.names.lookup x = some .local := by first | exact .inl rfl | exact .inr rfl | assumption) : wpAny M A (storeName X.env x u) Q E s := by
  obtain ⟨m, hn, hl⟩ := id I.loc
  have hcls : (X.env.scope.kind == .class || (X.env.scope.kind == .module && X.env.locals != X.env.globals)) = false := by rw [I.ok.kind]; rfl
  have hiσ : i < σ.length := by rw [I.len]; exact (List.getElem?_eq_some_iff.mp hi).1
  have cne := I.cne
  have tracked : ∀ {a : Addr} {h' : Heap}, (∃ o, s.heap.get? a = some o ∧ H a = none) → Heap.SameBut a s.heap h' → HOk X.prog X.w H h' := fun {a h'} ha hs b ob e => by
    obtain ⟨_, _, hfree⟩ := ha
    refine (I.hok b ob e).stay (fun c w' hc q => (hs.2 c ?_).trans q) (fun _ q => q) fun _ _ q => q
    rintro rfl
    rcases hc with rfl | hc
    · rw [hfree] at e; cases e
    · rw [hfree] at hc; cases hc
  rcases hx with hk | hk
  · refine wpAny_storeName_local hk hn (fun h' hn' hs => ?_) hcls
    obtain ⟨oL, _, _, hoL, _⟩ := id hn
    refine h _ ⟨I.ok, I.os, I.bare, ⟨fun b o e n hb hx => ?_, fun b o e n hb hx => ?_, I.base.free, fun b o e hx => ?_, I.base.tups, I.base.frzs, I.base.tbls⟩, ⟨_, hn', fun j y v' e1 e2 e3 => ?_⟩, fun y c e => ?_, I.free, I.freeC, fun p hp => ?_, tracked ⟨oL, hoL, I.free⟩ hs, by simpa using I.len⟩ ⟨_, hs, .inl rfl⟩
    · exact (hs.2 b (Nat.ne_of_lt (Nat.lt_of_lt_of_le (Heap.lt_size e) I.ok.above))).trans (I.base.keep b o e n hb hx)
    · obtain ⟨sl, e1⟩ := I.base.slot b o e n hb hx
      exact ⟨sl, (hs.2 b (Nat.ne_of_lt (Nat.lt_of_lt_of_le (Heap.lt_size e) I.ok.above))).trans e1⟩
    · obtain ⟨o', e1⟩ := I.base.there b o e hx
      exact ⟨o', (hs.2 b (Nat.ne_of_lt (Nat.lt_of_lt_of_le (Heap.lt_size e) I.ok.above))).trans e1⟩
    · by_cases hj : j = i
      · subst hj
        rw [hi] at e1; cases e1
        rw [List.getElem?_set_self hiσ] at e2
        cases e2
        exact ⟨u, r, .inl ⟨hk, by simp⟩⟩
      · rw [List.getElem?_set_ne (Ne.symm hj)] at e2
        obtain ⟨u', r', q⟩ := hl j y v' e1 e2 e3
        refine ⟨u', r', ?_⟩
        rcases q with ⟨k, e⟩ | ⟨k, c, e, z⟩
        · refine .inl ⟨k, ?_⟩
          have : y ≠ x := fun e => hj (nodup_ix hN e1 (e ▸ hi))
          simp [this, e]
        · exact .inr ⟨k, c, e, z.sameBut hs (cne y c e)⟩
    · obtain ⟨w', z⟩ := I.cell y c e
      exact ⟨w', z.sameBut hs (cne y c e)⟩
    · obtain ⟨e, n, ne, nf, d⟩ := I.pin p hp
      exact ⟨(hs.2 p.1 ne).trans e, n, ne, nf, d⟩
  · have hfn : X.fn x = true := by
      rcases hf with z | z
      · exact z
      · rw [z] at hk; cases hk
    obtain ⟨c, hc⟩ := I.ok.has x (.inl hk)
    obtain ⟨w', z⟩ := I.cell x c hc
    refine wpAny_storeName_cell I.ok.kind hk hc z (fun h' hc' hs => ?_)
    obtain ⟨oc, hoc, hocd⟩ := id z
    refine h { s with heap := h' } ⟨I.ok, I.os, I.bare, ⟨fun b o e n hb hx => ?_, fun b o e n hb hx => ?_, I.base.free, fun b o e hx => ?_, I.base.tups, I.base.frzs, I.base.tbls⟩, ⟨m, hn.sameBut hs (Ne.symm (cne x c hc)), fun j y v' e1 e2 e3 => ?_⟩, fun y c' e => ?_, I.free, I.freeC, fun p hp => ?_, tracked ⟨oc, hoc, I.freeC x c hc⟩ hs, by simpa using I.len⟩ ⟨c, hs, .inr hc⟩
    · exact (hs.2 b (Nat.ne_of_lt (Nat.lt_of_lt_of_le (Heap.lt_size e) (I.ok.cab x c hfn hc)))).trans (I.base.keep b o e n hb hx)
    · obtain ⟨sl, e1⟩ := I.base.slot b o e n hb hx
      exact ⟨sl, (hs.2 b (Nat.ne_of_lt (Nat.lt_of_lt_of_le (Heap.lt_size e) (I.ok.cab x c hfn hc)))).trans e1⟩
    · obtain ⟨o', e1⟩ := I.base.there b o e hx
      exact ⟨o', (hs.2 b (Nat.ne_of_lt (Nat.lt_of_lt_of_le (Heap.lt_size e) (I.ok.cab x c hfn hc)))).trans e1⟩
    · by_cases hj : j = i
      · subst hj
        rw [hi] at e1; cases e1
        rw [List.getElem?_set_self hiσ] at e2
        cases e2
        exact ⟨u, r, .inr ⟨.inl hk, c, hc, hc'⟩⟩
      · rw [List.getElem?_set_ne (Ne.symm hj)] at e2
        obtain ⟨u', r', q⟩ := hl j y v' e1 e2 e3
        refine ⟨u', r', ?_⟩
        rcases q with q | ⟨k, c', e, z'⟩
        · exact .inl q
        · refine .inr ⟨k, c', e, z'.sameBut hs ?_⟩
          rintro rfl
          exact hj (nodup_ix hN e1 (I.ok.inj _ _ _ e hc ▸ hi))
    · by_cases hcc : c' = c
      · subst hcc; exact ⟨_, hc'⟩
      · obtain ⟨w2, z2⟩ := I.cell y c' e
        exact ⟨w2, z2.sameBut hs hcc⟩
    · obtain ⟨e, n, ne, nf, d⟩ := I.pin p hp
      refine ⟨(hs.2 p.1 ?_).trans e, n, ne, nf, d⟩
      intro q
      rw [q, hoc] at e
      have q' : oc = p.2 := Option.some.inj e
      exact d w' (by rw [← q']; exact hocd)
theorem store_ok {M : Model} {A : Around} {E : Value → Shared → Prop} {i : Nat} {x : Str} {v : V} {u : Value} {Q : Unit → Shared → Prop} (I : Inv X pins σ H s) (hN : X.N.Nodup) (hi : X.N[i]? = some x) (hx : Loc X.env.scope x) (r : RelV v u)
    (h : ∀ s', Inv X pins (σ.set i (some v)) H s' → Q () s') (hf : X.fn x = true ∨ X.env.scope.names.lookup x = some .local := by first | exact .inl rfl | exact .inr rfl | assumption) : wpAny M A (storeName X.env x u) Q E s :=
  store_ok2 I hN hi hx r (fun s' I' _ => h s' I') hf
/-- behind a call or a block, the state as it is -/
theorem Inv.call' {s' : Shared} {ch : List Addr} (I : Inv X pins σ H s) (ho : s'.os = s.os) (u : Un (frs X.stack) ch H H' s.heap s'.heap) (hok : HOk X.prog X.w H' s'.heap) (hg : AllBare s'.gens)
    (hch : ∀ b ∈ ch, (b ∈ X.ex ∨ X.s₀.heap.objs.size ≤ b) ∧ b ≠ X.env.locals ∧ (∀ x c, X.env.cells.lookup x = some c → c ≠ b) ∧ ∀ p ∈ X.pn ++ pins, p.1 ≠ b) : Inv X pins σ H' s' := by
  obtain ⟨h', g', d', t', o'⟩ := s'
  have e : o' = s.os := ho
  subst e
  exact I.call (g' := g') (t' := t') (d' := d') u hok hg hch
end

/-! ### the judgements -/
/-- an exception: its class, its own dict's address (where it has one), the abstract heap behind it -/
abbrev XK := Value → Option Addr → Hp → Prop
abbrev St := List (Option V)
abbrev VK := V → Hp → Prop
/-- an expression's reading; a test's; an argument list's -/
abbrev TE := St → Hp → VK → Prop
abbrev TT := St → Hp → (Bool → Hp → Prop) → Prop
abbrev TA := St → Hp → (List V → Hp → Prop) → Prop
/-- what is wanted behind a statement -/
structure Ends where
  nx : St → Hp → Prop
  rt : VK
  bk : St → Hp → Prop := fun _ _ => False
  ct : St → Hp → Prop := fun _ _ => False
abbrev TS := Ends → St → Hp → Prop

def EP (X : Cx) (pins : List (Addr × Obj)) (σ : St) (Q : VK) (u : Value) (s' : Shared) : Prop := ∃ v H', Inv X pins σ H' s' ∧ RelV v u ∧ Q v H'
def TP (X : Cx) (pins : List (Addr × Obj)) (σ : St) (Q : Bool → Hp → Prop) (b : Bool) (s' : Shared) : Prop := ∃ H', Inv X pins σ H' s' ∧ Q b H'
def AP (X : Cx) (pins : List (Addr × Obj)) (σ : St) (Q : List V → Hp → Prop) (us : List Value) (s' : Shared) : Prop := ∃ vs H', Inv X pins σ H' s' ∧ Vals vs us ∧ Q vs H'
def SP (X : Cx) (pins : List (Addr × Obj)) (D : Ends) (f : Flow) (s' : Shared) : Prop :=
  match f with
  | .next => ∃ σ' H', Inv X pins σ' H' s' ∧ D.nx σ' H'
  | .brk => ∃ σ' H', Inv X pins σ' H' s' ∧ D.bk σ' H'
  | .cont => ∃ σ' H', Inv X pins σ' H' s' ∧ D.ct σ' H'
  | .ret u => ∃ v σ' H', Inv X pins σ' H' s' ∧ RelV v u ∧ D.rt v H'

def PE (X : Cx) (e : Expr) (t : TE) : Prop :=
  ∀ (pins : List (Addr × Obj)) (s : Shared) (σ : St) (H : Hp) (Q : VK), Inv X pins σ H s → t σ H Q → wpAny (model X.prog X.w) X.A (eval e X.env) (EP X pins σ Q) X.xe s
def PT (X : Cx) (e : Expr) (t : TT) : Prop :=
  ∀ (pins : List (Addr × Obj)) (s : Shared) (σ : St) (H : Hp) (Q : Bool → Hp → Prop), Inv X pins σ H s → t σ H Q → wpAny (model X.prog X.w) X.A (isTrue e X.env (eval e X.env)) (TP X pins σ Q) X.xe s
/-- a test whatever its 'whole' is (and, or) -/
def PW (X : Cx) (e : Expr) (t : TT) : Prop :=
  ∀ (whole : Sem Value) (pins : List (Addr × Obj)) (s : Shared) (σ : St) (H : Hp) (Q : Bool → Hp → Prop), Inv X pins σ H s → t σ H Q → wpAny (model X.prog X.w) X.A (isTrue e X.env whole) (TP X pins σ Q) X.xe s
theorem PW.pt {X : Cx} {e : Expr} {t : TT} (h : PW X e t) : PT X e t := h _
/-- an argument list (no star), from the left -/
def PA (X : Cx) (es : List Expr) (t : TA) : Prop :=
  ∀ (pos : Pos) (pins : List (Addr × Obj)) (s : Shared) (σ : St) (H : Hp) (Q : List V → Hp → Prop), Inv X pins σ H s → t σ H Q → wpAny (model X.prog X.w) X.A (spliced (backTo pos (starEach es X.env))) (AP X pins σ Q) X.xe s
def PS (X : Cx) (st : Stmt) (t : TS) : Prop :=
  ∀ (pins : List (Addr × Obj)) (s : Shared) (σ : St) (H : Hp) (D : Ends), Inv X pins σ H s → t D σ H → wpAny (model X.prog X.w) X.A (exec st X.env) (SP X pins D) X.xe s
def PSs (X : Cx) (st : List Stmt) (t : TS) : Prop :=
  ∀ (pins : List (Addr × Obj)) (s : Shared) (σ : St) (H : Hp) (D : Ends), Inv X pins σ H s → t D σ H → wpAny (model X.prog X.w) X.A (execs st X.env) (SP X pins D) X.xe s
/-- weaken the end -/
theorem thn {α : Type} {t : Sem α} {Q Q' : α → Shared → Prop} {M : Model} {A : Around} {E : Value → Shared → Prop} {s : Shared} (h : wpAny M A t Q E s) (hQ : ∀ a s, Q a s → Q' a s) : wpAny M A t Q' E s := wpAny_mono h hQ fun _ _ x => x
end L2

namespace L2
open PySem PySem.Spec PyProof.Rows
section
variable {X : Cx}

/-! ### names and constants -/
def tVar (i : Nat) : TE := fun σ H Q => ∃ v, σ[i]? = some (some v) ∧ Q v H
def tC (v : V) : TE := fun _ H Q => Q v H
theorem pe_var {i : Nat} {x : Str} {pos : Pos} (hN : X.N[i]? = some x) (hv : Vis X.env.scope x) (hd : (x == ("__debug__" : Str)) = false := by decide) (hcd : (x == ("__classdict__" : Str)) = false := by decide) : PE X (.Name x pos) (tVar i) := by
  intro pins s σ H Q I h
  obtain ⟨v, e, h⟩ := h
  obtain ⟨m, hn, hl⟩ := I.loc
  obtain ⟨u, r, l⟩ := hl i x v hN e hv
  have fin : EP X pins σ Q u s := ⟨v, H, I, r, h⟩
  rcases l with ⟨hk, hm⟩ | ⟨hk, c, hc, hcell⟩
  · exact wpAny_Name (wpAny_loadName_local I.ok.kind hk hn hm fin) hd
  · rcases hk with hk | hk
    · exact wpAny_Name (wpAny_loadName_cell I.ok.kind hk hc hcell fin) hd
    · exact wpAny_Name (wpAny_loadName_free I.ok.kind hk hc hcell fin hcd) hd
theorem pe_int {i j pos} : PE X (.Constant (.int i) j pos) (tC (.int i)) := fun _ _ _ H _ I h => wpAny_Constant_int ⟨.int i, H, I.tok _, ⟨_, rfl⟩, h⟩
theorem pe_bl {b j pos} : PE X (.Constant (.bool b) j pos) (tC (.bl b)) := fun _ _ _ H _ I h => Constant_bool ⟨.bl b, H, I, rfl, h⟩
theorem pe_non {j pos} : PE X (.Constant .none j pos) (tC .non) := fun _ _ _ H _ I h => Constant_none ⟨.non, H, I, rfl, h⟩
/-- a global name of the def -/
def Gl (X : Cx) (x : Str) : Prop := X.env.kindOf x = some .globalImplicit
theorem ld_glob {E : Value → Shared → Prop} {pins : List (Addr × Obj)} {s : Shared} {σ : St} {H : Hp} {x : Str} {u : Value} {pos : Pos} {Q : Value → Shared → Prop} (I : Inv X pins σ H s) (hg : Gl X x) (hm : X.mg x = some u) (h : Q u s)
    (hd : (x == ("__debug__" : Str)) = false := by decide) : wpAny (model X.prog X.w) X.A (eval (.Name x pos) X.env) Q E s :=
  Calls.Name_function_global I.ok.kind hg (Calls.loadGlobal_global (by rw [I.ok.glob]; exact I.mod.glob.keeps I.bk) hm h) hd
theorem ld_blt {E : Value → Shared → Prop} {pins : List (Addr × Obj)} {s : Shared} {σ : St} {H : Hp} {x : Str} {u : Value} {pos : Pos} {Q : Value → Shared → Prop} (I : Inv X pins σ H s) (hg : Gl X x) (hm : X.mg x = none) (hv : bootBuiltins x = some u) (h : Q u s)
    (hn : x ≠ "__name__" := by decide) (hd : (x == ("__debug__" : Str)) = false := by decide) : wpAny (model X.prog X.w) X.A (eval (.Name x pos) X.env) Q E s := by
  obtain ⟨mb, h1, h2⟩ := I.mod.blt
  exact Calls.Name_function_global I.ok.kind hg (Calls.loadGlobal_builtin (by rw [I.ok.glob]; exact I.mod.glob.keeps I.bk) hm (by rw [I.ok.blt]; exact h1.keeps I.bk) ((h2 x hn).trans hv) h) hd
/-- a module's constant, a class, a function, as a value -/
theorem pe_glob {x : Str} {v : V} {u : Value} {pos : Pos} (hg : Gl X x) (hm : X.mg x = some u) (r : RelV v u) (hd : (x == ("__debug__" : Str)) = false := by decide) : PE X (.Name x pos) (tC v) :=
  fun _ _ _ H _ I h => ld_glob I hg hm ⟨v, H, I, r, h⟩ hd
theorem pe_bltn {x : Str} {v : V} {u : Value} {pos : Pos} (hg : Gl X x) (hm : X.mg x = none) (hv : bootBuiltins x = some u) (r : RelV v u) (hn : x ≠ "__name__" := by decide) (hd : (x == ("__debug__" : Str)) = false := by decide) : PE X (.Name x pos) (tC v) :=
  fun _ _ _ H _ I h => ld_blt I hg hm hv ⟨v, H, I, r, h⟩ hn hd

/-! ### arithmetic -/
/-- two ints -/
def t2I (ta tb : TE) (k : Int → Int → Hp → Prop) : St → Hp → Prop := fun σ H => ta σ H fun x H1 => tb σ H1 fun y H2 => ∃ i j, x = .int i ∧ y = .int j ∧ k i j H2
def tAdd (ta tb : TE) : TE := fun σ H Q => t2I ta tb (fun i j H2 => Q (.int (i + j)) H2) σ H
def tSub (ta tb : TE) : TE := fun σ H Q => t2I ta tb (fun i j H2 => Q (.int (i - j)) H2) σ H
/-- the left factor below 2^64 -/
def tMul (ta tb : TE) : TE := fun σ H Q => t2I ta tb (fun i j H2 => (-(2 ^ 64) < i ∧ i < 2 ^ 64) ∧ Q (.int (i * j)) H2) σ H
variable {a b : Expr} {ta tb : TE} {pos : Pos}
/-! ### comparisons -/
def PC (X : Cx) (op : CmpOp) (a b : Expr) (t : TE) : Prop :=
  ∀ (pins : List (Addr × Obj)) (s : Shared) (σ : St) (H : Hp) (Q : VK), Inv X pins σ H s → t σ H Q →
    wpAny (model X.prog X.w) X.A (eval a X.env) (fun v s₁ => wpAny (model X.prog X.w) X.A (eval b X.env) (fun u s₂ => wpAny (model X.prog X.w) X.A (compareOp op v u) (EP X pins σ Q) X.xe s₂) X.xe s₁) X.xe s
def tCmp (p : Int → Int → Bool) (ta tb : TE) : TE := fun σ H Q => t2I ta tb (fun i j H2 => Q (.bl (p i j)) H2) σ H
abbrev tLt : TE → TE → TE := tCmp fun i j => decide (i < j)
abbrev tLe : TE → TE → TE := tCmp fun i j => decide (i ≤ j)
abbrev tGt : TE → TE → TE := tCmp fun i j => decide (j < i)
abbrev tGe : TE → TE → TE := tCmp fun i j => decide (j ≤ i)
abbrev tEqI : TE → TE → TE := tCmp fun i j => decide (i = j)
abbrev tNeI : TE → TE → TE := tCmp fun i j => !decide (i = j)
/-- is None -/
def tIsN (ta : TE) : TE := fun σ H Q => ta σ H fun x H1 => Q (.bl (decide (x = .non))) H1
def tNotN (ta : TE) : TE := fun σ H Q => ta σ H fun x H1 => Q (.bl (!decide (x = .non))) H1
/-- a comparison as a value, as a test -/
def tB (t : TE) : TT := fun σ H Q => t σ H fun x H1 => ∃ c, x = .bl c ∧ Q c H1
/-- an expression whose value is a bool, as a test -/
theorem pt_val {e : Expr} {t : TE} (h : PE X e t) (he : ∀ whole, isTrue e X.env whole = (do let v ← whole; standAt e.pos; holding [v] (truthy v)) := by intro _; rfl) : PT X e (tB t) := by
  intro pins s σ H Q I hw
  refine isTrue_plain (thn (h pins s σ H _ I hw) fun v s1 ⟨x, H1, I1, r1, q1⟩ => ?_) (he _)
  obtain ⟨d, rfl, q⟩ := q1
  cases r1
  exact wpAny_truthy_bool ⟨H1, I1, q⟩

/-! ### and, or, not -/
variable {tA tB' : TT} {rest : List Expr}
def tAnd (t u : TT) : TT := fun σ H Q => t σ H fun c H1 => if c = true then u σ H1 Q else Q false H1
def tOr (t u : TT) : TT := fun σ H Q => t σ H fun c H1 => if c = true then Q true H1 else u σ H1 Q
def tNot (t : TT) : TT := fun σ H Q => t σ H fun c H1 => Q (!c) H1
theorem pw_and1 (ha : PT X a tA) : PW X (.BoolOp .And [a] pos) tA := by
  intro wh pins s σ H Q I h
  refine isTrue_and (thn (ha pins s σ H Q I h) fun c s1 e => ?_)
  cases c with
  | true => exact isTrue_and_nil e
  | false => exact e
theorem pw_or1 (ha : PT X a tA) : PW X (.BoolOp .Or [a] pos) tA := by
  intro wh pins s σ H Q I h
  refine isTrue_or (thn (ha pins s σ H Q I h) fun c s1 e => ?_)
  cases c with
  | false => exact isTrue_or_nil e
  | true => exact e
theorem pw_and (ha : PT X a tA) (hb : PW X (.BoolOp .And (b :: rest) pos) tB') : PW X (.BoolOp .And (a :: b :: rest) pos) (tAnd tA tB') := by
  intro wh pins s σ H Q I h
  refine isTrue_and (thn (ha pins s σ H _ I h) fun c s1 ⟨H1, I1, q1⟩ => ?_)
  cases c with
  | true => exact hb wh pins s1 σ H1 Q I1 q1
  | false => exact ⟨H1, I1, q1⟩
theorem pw_or (ha : PT X a tA) (hb : PW X (.BoolOp .Or (b :: rest) pos) tB') : PW X (.BoolOp .Or (a :: b :: rest) pos) (tOr tA tB') := by
  intro wh pins s σ H Q I h
  refine isTrue_or (thn (ha pins s σ H _ I h) fun c s1 ⟨H1, I1, q1⟩ => ?_)
  cases c with
  | true => exact ⟨H1, I1, q1⟩
  | false => exact hb wh pins s1 σ H1 Q I1 q1
theorem pt_not (ha : PT X a tA) : PT X (.UnaryOp .Not a pos) (tNot tA) := by
  intro pins s σ H Q I h
  exact isTrue_not (ha pins s σ H (fun c H1 => Q (!c) H1) I h)
/-- .. as values (bools) -/
def tAndV (ta tb : TE) : TE := fun σ H Q => ta σ H fun x H1 => ∃ c, x = .bl c ∧ if c = true then tb σ H1 Q else Q (.bl false) H1
def tOrV (ta tb : TE) : TE := fun σ H Q => ta σ H fun x H1 => ∃ c, x = .bl c ∧ if c = true then Q (.bl true) H1 else tb σ H1 Q
def tNotV (ta : TE) : TE := fun σ H Q => ta σ H fun x H1 => ∃ c, x = .bl c ∧ Q (.bl (!c)) H1
theorem pe_one {op} {t : TE} (h : PE X a t) : PE X (.BoolOp op [a] pos) t := fun pins s σ H Q I hw => BoolOp_one (h pins s σ H Q I hw)
theorem pe_and (ha : PE X a ta) (hb : PE X (.BoolOp .And (b :: rest) pos) tb) : PE X (.BoolOp .And (a :: b :: rest) pos) (tAndV ta tb) := by
  intro pins s σ H Q I h
  refine BoolOp_and (thn (ha pins s σ H _ I h) fun v s1 ⟨x, H1, I1, r1, q1⟩ => ?_)
  obtain ⟨c, rfl, q1⟩ := q1
  cases r1
  refine wpAny_truthy_bool ?_
  cases c with
  | true => exact hb pins s1 σ H1 Q I1 q1
  | false => exact ⟨.bl false, H1, I1, rfl, q1⟩
theorem pe_not (ha : PE X a ta) : PE X (.UnaryOp .Not a pos) (tNotV ta) := by
  intro pins s σ H Q I h
  refine UnaryOp_ (thn (ha pins s σ H _ I h) fun v s1 ⟨x, H1, I1, r1, q1⟩ => ?_)
  obtain ⟨c, rfl, q1⟩ := q1
  cases r1
  exact not_of (wpAny_truthy_bool ⟨.bl (!c), H1, I1, rfl, q1⟩)
/-- a if t else b -/
def tIf (t : TT) (ta tb : TE) : TE := fun σ H Q => t σ H fun c H1 => if c = true then ta σ H1 Q else tb σ H1 Q
end
end L2

namespace L2
open PySem PySem.Spec PyProof.Rows

/-! ### a list, a tuple that is read: tracked, frozen, or an object of the module -/
def SqL (K : PySem.W.Frag) (H : Hp) (a : Addr) (xs : List V) : Prop :=
  Rd H a (.lst xs) ∨
    ∃ (o : Obj) (its : Array Value) (n : Nat), K.lookup a = some o ∧ o.cls = .type "list" ∧ o.dict = none ∧ o.data = .seq its n ∧ its.size ≤ sizeLine ∧ Vals xs its.toList
def SqT (K : PySem.W.Frag) (H : Hp) (a : Addr) (xs : List V) : Prop :=
  Rd H a (.tup xs) ∨
    ∃ (o : Obj) (its : Array Value) (n : Nat), K.lookup a = some o ∧ o.cls = .type "tuple" ∧ o.data = .seq its n ∧ its.size ≤ sizeLine ∧ Vals xs its.toList
def absV : Value → Option V
  | .none => some .non
  | .bool b => some (.bl b)
  | .int i _ => some (.int i)
  | .str x _ => some (.str x)
  | .bytes b _ => some (.byt b)
  | .float b _ => some (.flt b)
  | .ref a => some (.ref a)
  | .type n => some (.ty n)
  | _ => none
theorem RelV.abs {x : V} {u : Value} (r : RelV x u) : absV u = some x := by
  cases x with
  | non => cases r; rfl
  | bl _ => cases r; rfl
  | int _ => obtain ⟨t, rfl⟩ := r; rfl
  | str _ => obtain ⟨t, rfl⟩ := r; rfl
  | byt _ => obtain ⟨t, rfl⟩ := r; rfl
  | flt _ => obtain ⟨t, rfl⟩ := r; rfl
  | ref _ => cases r; rfl
  | ty _ => cases r; rfl
theorem RelV.inj {x y : V} {u : Value} (r : RelV x u) (q : RelV y u) : x = y := Option.some.inj (r.abs.symm.trans q.abs)
theorem Vals.inj : ∀ {xs ys : List V} {us : List Value}, Vals xs us → Vals ys us → xs = ys
  | _, _, _, .nil, .nil => rfl
  | _, _, _, .cons r t, .cons r' t' => by rw [r.inj r', Vals.inj t t']
section
variable {X : Cx} {pins : List (Addr × Obj)} {σ : St} {H : Hp} {s : Shared} {a : Addr} {xs ys : List V}
theorem SqL.of {K : PySem.W.Frag} (h : H a = some (.lst xs)) : SqL K H a xs := .inl (.inl h)
theorem SqT.of {K : PySem.W.Frag} (h : H a = some (.tup xs)) : SqT K H a xs := .inl (.inl h)
theorem Inv.list (I : Inv X pins σ H s) (h : SqL X.K H a xs) : ∃ its : List Value, Vals xs its ∧ PlainL s.heap a its.toArray ∧ xs.length ≤ sizeLine := by
  rcases h with h | ⟨o, its, n, hk, hc, hd, hs, hz, r⟩
  · obtain ⟨z, its, n, r, e⟩ := h.ok I.hok
    exact ⟨its, r, ⟨_, n, e, rfl, rfl, rfl⟩, z⟩
  · refine ⟨its.toList, r, ⟨o, n, I.kIn a o hk, hc, hd, by simpa using hs⟩, ?_⟩
    have e := r.length
    simp only [Array.length_toList] at e
    omega
theorem Inv.tuple (I : Inv X pins σ H s) (h : SqT X.K H a xs) : ∃ its : List Value, Vals xs its ∧ IsTup s.heap a its.toArray ∧ xs.length ≤ sizeLine := by
  rcases h with h | ⟨o, its, n, hk, hc, hs, hz, r⟩
  · obtain ⟨z, its, r, p⟩ := h.ok I.hok
    exact ⟨its, r, p, z⟩
  · refine ⟨its.toList, r, ⟨o, I.kIn a o hk, hc, n, by simpa using hs⟩, ?_⟩
    have e := r.length
    simp only [Array.length_toList] at e
    omega
theorem Inv.list_inj (I : Inv X pins σ H s) (h : SqL X.K H a xs) (h' : SqL X.K H a ys) : xs = ys := by
  obtain ⟨its, r, ⟨o, n, e, _, _, d⟩, _⟩ := I.list h
  obtain ⟨its', r', ⟨o', n', e', _, _, d'⟩, _⟩ := I.list h'
  rw [e] at e'; cases e'
  rw [d] at d'
  injection d' with d1 _
  have : its = its' := by simpa using congrArg Array.toList d1
  subst this
  exact r.inj r'
theorem Inv.tuple_inj (I : Inv X pins σ H s) (h : SqT X.K H a xs) (h' : SqT X.K H a ys) : xs = ys := by
  obtain ⟨its, r, ⟨o, e, _, n, d⟩, _⟩ := I.tuple h
  obtain ⟨its', r', ⟨o', e', _, n', d'⟩, _⟩ := I.tuple h'
  rw [e] at e'; cases e'
  rw [d] at d'
  injection d' with d1 _
  have : its = its' := by simpa using congrArg Array.toList d1
  subst this
  exact r.inj r'
end

/-! ### another wish about exceptions -/
abbrev Cx.wish (X : Cx) (E : Value → Shared → Prop) : Cx := { X with xe := E }
/-- no exception leaves -/
abbrev Cx.nox (X : Cx) : Cx := X.wish fun _ _ => False
theorem Cx.Ok.wish {X : Cx} (ok : X.Ok) (E : Value → Shared → Prop) : (X.wish E).Ok :=
  ⟨ok.mod, ok.kind, ok.glob, ok.blt, ok.above, ok.inj, ok.has, ok.cab, ok.hd, ok.frames, ok.stk, ok.exf, ok.bs, ok.bsz, ok.noex, ok.exfs, ok.funs, ok.frf⟩
theorem Cx.Ok.unwish {X : Cx} {E : Value → Shared → Prop} (ok : (X.wish E).Ok) : X.Ok :=
  ⟨ok.mod, ok.kind, ok.glob, ok.blt, ok.above, ok.inj, ok.has, ok.cab, ok.hd, ok.frames, ok.stk, ok.exf, ok.bs, ok.bsz, ok.noex, ok.exfs, ok.funs, ok.frf⟩
section
variable {X : Cx} {pins : List (Addr × Obj)} {σ : St} {H : Hp} {s : Shared} {E : Value → Shared → Prop}
theorem Inv.wish (I : Inv X pins σ H s) (E : Value → Shared → Prop) : Inv (X.wish E) pins σ H s := ⟨I.ok.wish E, I.os, I.bare, I.base, I.loc, I.cell, I.free, I.freeC, I.pin, I.hok, I.len⟩
theorem Inv.unwish (I : Inv (X.wish E) pins σ H s) : Inv X pins σ H s := ⟨I.ok.unwish, I.os, I.bare, I.base, I.loc, I.cell, I.free, I.freeC, I.pin, I.hok, I.len⟩
theorem SP.unwish {D : Ends} {f : Flow} {s' : Shared} (h : SP (X.wish E) pins D f s') : SP X pins D f s' := by
  cases f with
  | next => obtain ⟨σ', H', I, q⟩ := h; exact ⟨σ', H', I.unwish, q⟩
  | brk => obtain ⟨σ', H', I, q⟩ := h; exact ⟨σ', H', I.unwish, q⟩
  | cont => obtain ⟨σ', H', I, q⟩ := h; exact ⟨σ', H', I.unwish, q⟩
  | ret u => obtain ⟨v, σ', H', I, r, q⟩ := h; exact ⟨v, σ', H', I.unwish, r, q⟩
theorem PE.nox {e : Expr} {t : TE} (h : PE X.nox e t) : PE X e t := fun pins s σ H Q I hw =>
  wpAny_mono (h pins s σ H Q (I.wish _) hw) (fun _ _ ⟨v, H', I', r, q⟩ => ⟨v, H', I'.unwish, r, q⟩) fun _ _ z => False.elim z
theorem PT.nox {e : Expr} {t : TT} (h : PT X.nox e t) : PT X e t := fun pins s σ H Q I hw =>
  wpAny_mono (h pins s σ H Q (I.wish _) hw) (fun _ _ ⟨H', I', q⟩ => ⟨H', I'.unwish, q⟩) fun _ _ z => False.elim z
theorem PSs.nox {st : List Stmt} {t : TS} (h : PSs X.nox st t) : PSs X st t := fun pins s σ H D I hw =>
  wpAny_mono (h pins s σ H D (I.wish _) hw) (fun _ _ q => q.unwish) fun _ _ z => False.elim z
end

/-! ### blocks and small statements -/
section
variable {X : Cx} {st : Stmt} {rest : List Stmt} {t u : TS} {e : Expr} {te : TE} {pos : Pos}
def tNext : TS := fun D σ H => D.nx σ H
def tSeq (t u : TS) : TS := fun D σ H => t { D with nx := u D } σ H
theorem pss_nil : PSs X [] tNext := fun _ _ σ H _ I h => wpAny_execs_nil ⟨σ, H, I, h⟩
theorem pss_cons (h1 : PS X st t) (h2 : PSs X rest u) : PSs X (st :: rest) (tSeq t u) := by
  intro pins s σ H D I h
  refine wpAny_execs_cons (thn (h1 pins s σ H { D with nx := u D } I h) fun f s1 q => ?_)
  cases f with
  | next =>
    obtain ⟨σ', H', I', q⟩ := q
    exact h2 pins s1 σ' H' D I' q
  | ret v => exact q
  | brk => exact q
  | cont => exact q
theorem pss_one (h1 : PS X st t) : PSs X [st] t := by
  intro pins s σ H D I h
  refine wpAny_execs_cons (thn (h1 pins s σ H D I h) fun f s1 q => ?_)
  cases f with
  | next => exact wpAny_execs_nil q
  | ret v => exact q
  | brk => exact q
  | cont => exact q
def tBreak : TS := fun D σ H => D.bk σ H
def tCont : TS := fun D σ H => D.ct σ H
/-- in a def's body nothing is shown -/
theorem Inv.quiet {pins : List (Addr × Obj)} {σ : St} {H : Hp} {s : Shared} (I : Inv X pins σ H s) : interactive X.env = false := by simp [interactive, I.ok.kind]
/-- an expression whose value is dropped -/
def tDrop (te : TE) : TS := fun D σ H => te σ H fun _ H1 => D.nx σ H1
theorem ps_expr (he : PE X e te) (hs : swapsWith e none pos.line X.env = pure false := by rfl) : PS X (.Expr e pos) (tDrop te) := by
  intro pins s σ H D I h
  exact wpAny_Expr_any (thn (he pins s σ H _ I h) fun v s1 ⟨x, H1, I1, r1, q1⟩ => ⟨σ, H1, I1, q1⟩) I.quiet hs
def tRet (te : TE) : TS := fun D σ H => te σ H D.rt
theorem ps_ret (he : PE X e te) : PS X (.Return (some e) pos) (tRet te) := by
  intro pins s σ H D I h
  exact wpAny_Return_some (thn (he pins s σ H _ I h) fun v s1 ⟨x, H1, I1, r1, q1⟩ => ⟨x, σ, H1, I1, r1, q1⟩)
def tRetN : TS := fun D _ H => D.rt .non H
def tIfS (c : TT) (t u : TS) : TS := fun D σ H => c σ H fun b H1 => if b = true then t D σ H1 else u D σ H1
theorem ps_if {c : Expr} {a b : List Stmt} {tc : TT} (hc : PT X c tc) (ha : PSs X a t) (hb : PSs X b u) : PS X (.If c a b pos) (tIfS tc t u) := by
  intro pins s σ H D I h
  refine wpAny_If (thn (hc pins s σ H _ I h) fun d s1 ⟨H1, I1, q1⟩ => ?_)
  cases d with
  | true => exact ha pins s1 σ H1 D I1 q1
  | false => exact hb pins s1 σ H1 D I1 q1
/-- code that the proof never comes to -/
def tNever : TS := fun _ _ _ => False
theorem pss_never {sts : List Stmt} : PSs X sts tNever := fun _ _ _ _ _ _ h => h.elim
end

/-! ### targets -/
abbrev TG := V → St → Hp → (St → Hp → Prop) → Prop
abbrev TGs := List V → St → Hp → (St → Hp → Prop) → Prop
def PG (X : Cx) (target : Expr) (t : TG) : Prop :=
  ∀ (pins : List (Addr × Obj)) (s : Shared) (σ : St) (H : Hp) (v : V) (u : Value) (Q : St → Hp → Prop), Inv X pins σ H s → RelV v u → t v σ H Q →
    wpAny (model X.prog X.w) X.A (assign target X.env u) (fun _ s' => ∃ σ' H', Inv X pins σ' H' s' ∧ Q σ' H') X.xe s
/-- several targets, one after another -/
def PGs (X : Cx) (ts : List Expr) (t : TGs) : Prop :=
  ∀ (pins : List (Addr × Obj)) (s : Shared) (σ : St) (H : Hp) (vs : List V) (us : List Value) (Q : St → Hp → Prop), Inv X pins σ H s → Vals vs us → t vs σ H Q →
    wpAny (model X.prog X.w) X.A (assignInOrder ((assignEach ts X.env).map (·.2)) us) (fun _ s' => ∃ σ' H', Inv X pins σ' H' s' ∧ Q σ' H') X.xe s
/-- o[i] = v, by values -/
abbrev TSet := V → V → V → Hp → (Hp → Prop) → Prop
def PSet (X : Cx) (t : TSet) : Prop :=
  ∀ (pins : List (Addr × Obj)) (s : Shared) (σ : St) (H : Hp) (o i v : V) (ov iv u : Value) (Q : Hp → Prop), Inv X pins σ H s → RelV o ov → RelV i iv → RelV v u → t o i v H Q →
    wpAny (model X.prog X.w) X.A (setItem ov iv u) (fun _ s' => ∃ H', Inv X pins σ H' s' ∧ Q H') X.xe s
/-- a op= b, by values -/
abbrev TIp := V → V → Hp → VK → Prop
def PIp (X : Cx) (op : Operator) (t : TIp) : Prop :=
  ∀ (pins : List (Addr × Obj)) (s : Shared) (σ : St) (H : Hp) (x y : V) (v u : Value) (Q : VK), Inv X pins σ H s → RelV x v → RelV y u → t x y H Q →
    wpAny (model X.prog X.w) X.A (inplaceOp op v u) (EP X pins σ Q) X.xe s
section
variable {X : Cx} {pos : Pos}
def gName (i : Nat) : TG := fun v σ H Q => Q (σ.set i (some v)) H
theorem pg_name {i : Nat} {x : Str} (hN : X.N.Nodup) (hi : X.N[i]? = some x) (hx : Loc X.env.scope x) (hf : X.fn x = true ∨ X.env.scope.names.lookup x = some .local := by first | exact .inl rfl | exact .inr rfl | assumption) : PG X (.Name x pos) (gName i) := by
  intro pins s σ H v u Q I r h
  exact wpAny_assign_Name (store_ok I hN hi hx r (fun s' I' => ⟨_, H, I', h⟩) hf)
def gNil : TGs := fun vs σ H Q => vs = [] ∧ Q σ H
def gCons (t : TG) (u : TGs) : TGs := fun vs σ H Q => ∃ v r, vs = v :: r ∧ t v σ H fun σ' H' => u r σ' H' Q
theorem pgs_nil : PGs X [] gNil := by
  intro pins s σ H vs us Q I r h
  obtain ⟨e, h⟩ := h
  subst e
  cases r
  exact assignInOrder_nil ⟨σ, H, I, h⟩
theorem pgs_cons {e : Expr} {es : List Expr} {t : TG} {u : TGs} (h1 : PG X e t) (h2 : PGs X es u)
    (hs : (assignEach (e :: es) X.env).map (·.2) = assign e X.env :: (assignEach es X.env).map (·.2) := by rfl) : PGs X (e :: es) (gCons t u) := by
  intro pins s σ H vs us Q I r h
  obtain ⟨v, vr, e1, h⟩ := h
  subst e1
  cases r with
  | cons r rr =>
    rw [hs]
    refine assignInOrder_cons (thn (h1 pins s σ H _ _ _ I r h) fun _ s1 ⟨σ1, H1, I1, q1⟩ => ?_)
    exact h2 pins s1 σ1 H1 _ _ Q I1 rr q1
/-- (a, b, ..) = a tuple of that length -/
def gTup (K : PySem.W.Frag) (n : Nat) (t : TGs) : TG := fun v σ H Q => ∃ a xs, v = .ref a ∧ SqT K H a xs ∧ xs.length = n ∧ t xs σ H Q
theorem pg_tup {es : List Expr} {k : Nat} {t : TGs} {n : Nat} (hc : X.calm = true) (h : PGs X es t)
    (hn : (assignEach es X.env).length = n := by rfl) (hst : (assignEach es X.env).findIdx? (·.1) = none := by rfl) : PG X (.Tuple es k pos) (gTup X.K n t) := by
  intro pins s σ H v u Q I r hw
  obtain ⟨a, xs, e1, hq, hl, hw⟩ := hw
  subst e1
  cases r
  obtain ⟨its, rv, ht, hz⟩ := I.tuple hq
  refine assign_Tuple_tuple (I.ok.hd hc) ht (by simp [hn, ← hl, rv.length]) hst fun h' hx => ?_
  have I1 : Inv X pins σ H { s with heap := h' } := I.kept (t' := s.toks) fun b o e => hx b o (Nat.ne_of_lt (Heap.lt_size e)) e
  exact h pins _ σ H xs _ Q I1 (by simpa using rv) hw
/-- o[i] = .. -/
def gSub (to ti : TE) (t : TSet) : TG := fun v σ H Q => to σ H fun o H1 => ti σ H1 fun i H2 => t o i v H2 fun H3 => Q σ H3
theorem pg_sub {o i : Expr} {to ti : TE} {t : TSet} (ho : PE X o to) (hi : PE X i ti) (hs : PSet X t)
    (ha : ∀ v, assign (.Subscript o i pos) X.env v = (do
      let ov ← holding [v] (eval o X.env)
      let iv ← holding [v, ov] (eval i X.env)
      standAt pos
      holding [v, ov, iv] (setItem ov iv v)
      release [v, ov, iv] []) := by intro _; rfl) : PG X (.Subscript o i pos) (gSub to ti t) := by
  intro pins s σ H v u Q I r h
  rw [ha]
  refine wpAny_bind (wpAny_holding (thn (ho pins s σ H _ I h) fun ov s1 ⟨x, H1, I1, r1, q1⟩ => ?_))
  refine wpAny_bind (wpAny_holding (thn (hi pins s1 σ H1 _ I1 q1) fun iv s2 ⟨y, H2, I2, r2, q2⟩ => ?_))
  refine wpAny_bind (wpAny_standAt (wpAny_bind (wpAny_holding (thn (hs pins s2 σ H2 x y v ov iv u _ I2 r1 r2 r q2) fun _ s3 ⟨H3, I3, q3⟩ => ?_))))
  exact wpAny_release ⟨σ, H3, I3, q3⟩
/-- target = value -/
def tAsg (te : TE) (g : TG) : TS := fun D σ H => te σ H fun x H1 => g x σ H1 D.nx
theorem ps_asg {tg e : Expr} {te : TE} {g : TG} (he : PE X e te) (hg : PG X tg g) (hs : swapsWithSole [tg] e pos.line X.env = pure false := by rfl) (hw : swappedStores [tg] e X.env = pure none := by rfl)
    (h1 : (assignEach [tg] X.env).map (·.2) = [assign tg X.env] := by rfl) : PS X (.Assign [tg] e pos) (tAsg te g) := by
  intro pins s σ H D I h
  refine wpAny_Assign_stores (thn (he pins s σ H _ I h) fun v s1 ⟨x, H1, I1, r1, q1⟩ => ?_) hs hw
  rw [h1]
  exact thn (hg pins s1 σ H1 x v _ I1 r1 q1) fun _ s2 q => q
/-- name = value -/
theorem ps_set {i : Nat} {x : Str} {e : Expr} {te : TE} {pos' : Pos} (hN : X.N.Nodup) (hi : X.N[i]? = some x) (hx : Loc X.env.scope x) (he : PE X e te) (hs : swapsWith e (some (.Name x pos')) pos.line X.env = pure false := by rfl) (hf : X.fn x = true ∨ X.env.scope.names.lookup x = some .local := by first | exact .inl rfl | exact .inr rfl | assumption) :
    PS X (.Assign [.Name x pos'] e pos) (tAsg te (gName i)) := by
  intro pins s σ H D I h
  refine wpAny_Assign_Name (thn (he pins s σ H _ I h) fun v s1 ⟨y, H1, I1, r1, q1⟩ => ?_) hs
  exact store_ok I1 hN hi hx r1 (fun s2 I2 => ⟨_, H1, I2, q1⟩) hf
/-- a, b = x, y with plain local names: stored from the right; the pair itself is not tracked (the opening rows as in PyProof/Rows/TupAssign.lean:23) -/
def tPar (i j : Nat) (ta : TA) : TS := fun D σ H => ta σ H fun vs H1 => ∃ v w, vs = [v, w] ∧ D.nx ((σ.set i (some v)).set j (some w)) H1
theorem ps_par {i j : Nat} {x y : Str} {a b : Expr} {ta : TA} {px py pt : Pos} {kt k2 pt2} (hc : X.calm = true) (hN : X.N.Nodup) (hi : X.N[i]? = some x) (hj : X.N[j]? = some y) (hij : i ≠ j)
    (hx : X.env.scope.names.lookup x = some .local) (hy : X.env.scope.names.lookup y = some .local) (ha : PA X [a, b] ta)
    (hw : swappedStores [.Tuple [.Name x px, .Name y py] kt pt] (.Tuple [a, b] k2 pt2) X.env = pure (some [x, y]))
    (hs : swapsWithSole [.Tuple [.Name x px, .Name y py] kt pt] (.Tuple [a, b] k2 pt2) pos.line X.env = pure false := by rfl) :
    PS X (.Assign [.Tuple [.Name x px, .Name y py] kt pt] (.Tuple [a, b] k2 pt2) pos) (tPar i j ta) := by
  intro pins s σ H D I h
  rw [exec_Assign_arm]
  refine wpAny_bind (wpAny_standAt ?_)
  rw [hs]
  refine wpAny_bind (wpAny_pure ?_)
  rw [if_neg (by decide)]
  refine wpAny_bind (Tuple_ (thn (ha _ pins s σ H _ I h) fun us s1 ⟨vs, H1, I1, r1, q1⟩ => ?_))
  obtain ⟨v, w, e1, q1⟩ := q1
  subst e1
  obtain ⟨u1, u2, rfl, rv, rw'⟩ : ∃ u1 u2, us = [u1, u2] ∧ RelV v u1 ∧ RelV w u2 := by
    cases r1 with
    | cons p q =>
      cases q with
      | cons p' q' =>
        cases q'
        exact ⟨_, _, rfl, p, p'⟩
  refine wpAny_newObj_type ?_ (by show 2 ≤ sizeLine; decide)
  have I2 : Inv X pins σ H1 { s1 with heap := s1.heap.push { cls := .type "tuple", data := .seq [u1, u2].toArray } } := I1.kept (t' := s1.toks) fun b o e => Heap.get?_push_of_some _ e
  rw [hw]
  refine wpAny_bind (wpAny_pure ?_)
  show wpAny (model X.prog X.w) X.A (do rule "assign.swapped-stores"; let items ← unpackItems (.ref s1.heap.objs.size) 2 none; assignInOrder [fun v => bindName X.env y v, fun v => bindName X.env x v] items.reverse; pure Flow.next) _ _ _
  refine wpAny_bind (wpAny_rule (wpAny_bind (unpackItems_tuple (items := #[u1, u2]) (I.ok.hd hc) (IsTup.new s1.heap _) fun h' hx' => ?_)))
  have I3 := I2.kept (h' := h') (t' := s1.toks) fun b o e => hx' b o (Nat.ne_of_lt (Heap.lt_size e)) e
  show wpAny _ _ (assignInOrder [fun v => bindName X.env y v, fun v => bindName X.env x v] [u2, u1] >>= fun _ => pure Flow.next) _ _ _
  refine wpAny_bind (assignInOrder_cons (wpAny_bindName (store_ok I3 hN hj (.inl hy) rw' (fun s2 I4 => ?_) (.inr hy))))
  refine assignInOrder_cons (wpAny_bindName (store_ok I4 hN hi (.inl hx) rv (fun s3 I5 => assignInOrder_nil (wpAny_pure ?_)) (.inr hx)))
  rw [List.set_comm _ _ (Ne.symm hij)] at I5
  exact ⟨_, H1, I5, q1⟩
/-- name op= e -/
def tAug (i : Nat) (te : TE) (ti : TIp) : TS := fun D σ H => ∃ x, σ[i]? = some (some x) ∧ te σ H fun y H1 => ti x y H1 fun z H2 => D.nx (σ.set i (some z)) H2
/-- o[i] op= e -/
def tAugS (to ti te : TE) (tget : V → V → Hp → VK → Prop) (tip : TIp) (tset : TSet) : TS := fun D σ H => to σ H fun o H1 => ti σ H1 fun i H2 => tget o i H2 fun x H3 => te σ H3 fun y H4 => tip x y H4 fun z H5 => tset o i z H5 fun H6 => D.nx σ H6
/-- o[i], by values -/
def PGet (X : Cx) (t : V → V → Hp → VK → Prop) : Prop :=
  ∀ (pins : List (Addr × Obj)) (s : Shared) (σ : St) (H : Hp) (o i : V) (ov iv : Value) (Q : VK), Inv X pins σ H s → RelV o ov → RelV i iv → t o i H Q →
    wpAny (model X.prog X.w) X.A (getItem ov iv) (EP X pins σ Q) X.xe s
/-- ints -/
def ipI (f : Int → Int → Int) : TIp := fun x y H Q => ∃ i j, x = .int i ∧ y = .int j ∧ Q (.int (f i j)) H
end

/-! ### while -/
section
variable {X : Cx} {pos : Pos}
/-- the invariant W with its measure -/
def tWhile (c : TT) (tb : TS) : TS := fun D σ H => ∃ W : Nat → St → Hp → Prop, (∃ m, W m σ H) ∧ ∀ m σ H, W m σ H →
  c σ H fun b H1 => if b = true then ∃ N : St → Hp → Prop, (∀ σ' H', N σ' H' → ∃ m', m' < m ∧ W m' σ' H') ∧ tb { D with nx := N, ct := N, bk := D.nx } σ H1 else D.nx σ H1
theorem ps_while {c : Expr} {body : List Stmt} {tc : TT} {tb : TS} (hp : PassesOwn (model X.prog X.w) X.A X.env X.xe) (hc : PT X c tc) (hb : PSs X body tb) : PS X (.While c body [] pos) (tWhile tc tb) := by
  intro pins s σ H D I h
  obtain ⟨W, ⟨m0, w0⟩, turn⟩ := h
  refine wpAny_While (codeAny_whileLoop (fun n s' => ∃ σ' H', Inv X pins σ' H' s' ∧ W n σ' H') ?_ m0 ⟨σ, H, I, w0⟩)
  rintro n s1 ⟨σ1, H1, I1, w1⟩
  refine wpAny_passesOwn hp (thn (hc pins s1 σ1 H1 _ I1 (turn n σ1 H1 w1)) fun b s2 ⟨H2, I2, q2⟩ => ?_)
  cases b with
  | true =>
    obtain ⟨N, hN, q2⟩ := q2
    rw [if_pos rfl]
    refine wpAny_passesOwn hp (thn (hb pins s2 σ1 H2 _ I2 q2) fun f s3 q3 => ?_)
    cases f with
    | next =>
      obtain ⟨σ3, H3, I3, n3⟩ := q3
      obtain ⟨m', hm, w3⟩ := hN σ3 H3 n3
      exact ⟨m', hm, σ3, H3, I3, w3⟩
    | cont =>
      obtain ⟨σ3, H3, I3, n3⟩ := q3
      obtain ⟨m', hm, w3⟩ := hN σ3 H3 n3
      exact ⟨m', hm, σ3, H3, I3, w3⟩
    | brk => exact q3
    | ret v => exact q3
  | false =>
    rw [if_neg Bool.false_ne_true]
    exact wpAny_execs_nil ⟨σ1, H2, I2, q2⟩
end

/-! ### what a loop or a comprehension walks -/
/-- at turn i: it yields x (the heap may grow), or it stops -/
structure It where
  go : Nat → Hp → Prop
  yld : Nat → Hp → V → Hp → Prop
  stop : Nat → Hp → Prop
/-- the iterator's own objects may turn: they are not the frame's, not pinned, younger than the entry (or a comprehension's own) -/
def FpOk (X : Cx) (pins : List (Addr × Obj)) (H : Hp) (b : Addr) : Prop :=
  H b = none ∧ b ≠ X.env.locals ∧ b ∉ X.fs ∧ (b ∈ X.ex ∨ X.s₀.heap.objs.size ≤ b) ∧ (∀ x c, X.env.cells.lookup x = some c → c ≠ b) ∧ ∀ p ∈ X.pn ++ pins, p.1 ≠ b
theorem Inv.fpOk {X : Cx} {pins : List (Addr × Obj)} {σ : St} {H H' : Hp} {s : Shared} {b : Addr} (I : Inv X pins σ H s) (hb : s.heap.objs.size ≤ b) (hn : H' b = none) : FpOk X pins H' b := by
  refine ⟨hn, Nat.ne_of_gt (Nat.lt_of_lt_of_le I.lt hb), I.nofs hb, .inr (Nat.le_trans I.sz hb), fun x c e z => ?_, fun p hp z => ?_⟩
  · obtain ⟨v, q⟩ := I.cell x c e
    exact absurd (Nat.lt_of_lt_of_le q.lt (by rw [z]; exact hb)) (Nat.lt_irrefl _)
  · exact absurd (Nat.lt_of_lt_of_le (Heap.lt_size (I.pin p hp).1) (by rw [z]; exact hb)) (Nat.lt_irrefl _)
structure Turn (P : Program) (w : World) (K : PySem.W.Frag) (tg : Expr) (J : It) (fp : List Addr) (it : Addr) (tn : Nat → Heap → Prop) : Prop where
  mem : it ∈ fp
  obj : ∀ i h, tn i h → ∀ b ∈ fp, ∃ o, h.get? b = some o ∧ ∀ v, o.data ≠ .cell v
  keep : ∀ i h h', tn i h → (∀ b ∈ fp, ∀ o, h.get? b = some o → h'.get? b = some o) → tn i h'
  item : ∀ (X : Cx), X.prog = P → X.w = w → X.K = K → X.calm = true → ∀ (i : Nat) (pins : List (Addr × Obj)) (s : Shared) (σ : St) (H : Hp) (E : Value → Shared → Prop), Inv X pins σ H s → (∀ b ∈ fp, FpOk X pins H b) → tn i s.heap → J.go i H →
    wpAny (model P w) X.A (pyNext (.ref it)) (fun r s1 => ∃ u, r = some u ∧
      wpAny (model P w) X.A (letOwnedTupleGo tg (.ref it) u) (fun _ s2 => ∃ x H', Inv X pins σ H' s2 ∧ RelV x u ∧ J.yld i H x H' ∧ tn (i + 1) s2.heap ∧ ∀ b ∈ fp, H' b = none) E s1) E s
  done : ∀ (X : Cx), X.prog = P → X.w = w → X.K = K → X.calm = true → ∀ (i : Nat) (pins : List (Addr × Obj)) (s : Shared) (σ : St) (H : Hp) (E : Value → Shared → Prop), Inv X pins σ H s → (∀ b ∈ fp, FpOk X pins H b) → tn i s.heap → J.stop i H →
    wpAny (model P w) X.A (pyNext (.ref it)) (fun r s1 => r = none ∧ Inv X pins σ H s1) E s
  self : ∀ (A : Around) (i : Nat) (s : Shared) (Q : Value → Shared → Prop) (E : Value → Shared → Prop), tn i s.heap → Q (.ref it) s → wpAny (model P w) A (pyIter (.ref it)) Q E s
abbrev TI := St → Hp → (It → Hp → Prop) → Prop
/-- an iterator has come -/
def PIE (X : Cx) (pins : List (Addr × Obj)) (σ : St) (tg : Expr) (R : It → Hp → Prop) (itv : Value) (s2 : Shared) : Prop :=
  ∃ (it : Addr) (fp : List Addr) (tn : Nat → Heap → Prop) (J : It) (H' : Hp), itv = .ref it ∧ Inv X pins σ H' s2 ∧ Turn X.prog X.w X.K tg J fp it tn ∧ tn 0 s2.heap ∧ (∀ b ∈ fp, FpOk X pins H' b) ∧ R J H'
def PI (X : Cx) (tg iter : Expr) (wi : TI) : Prop :=
  ∀ (pins : List (Addr × Obj)) (s : Shared) (σ : St) (H : Hp) (R : It → Hp → Prop), Inv X pins σ H s → wi σ H R →
    wpAny (model X.prog X.w) X.A (eval iter X.env) (fun v s1 => wpAny (model X.prog X.w) X.A (pyIter v) (PIE X pins σ tg R) X.xe s1) X.xe s

/-- the step ahead of the store is nothing for an iterator that keeps no tuple -/
theorem go_of {M : Model} {A : Around} {E : Value → Shared → Prop} {s : Shared} {tg : Expr} {it : Addr} {u : Value} {o : Obj} {n : String} {vs : Array Value} {Q : Unit → Shared → Prop} (ho : s.heap.get? it = some o) (hc : o.cls = .type n) (hd : o.data = .fields vs)
    (hn : ["enumerate", "zip", "dict_itemiterator", "dict_reverseitemiterator", "odict_iterator", "itertools.zip_longest", "itertools.pairwise"].contains n = false) (hQ : Q () s) : wpAny M A (letOwnedTupleGo tg (.ref it) u) Q E s := by
  unfold letOwnedTupleGo
  cases tg <;> first
    | exact wpAny_pure hQ
    | (cases u <;> first
        | exact wpAny_pure hQ
        | (refine wpAny_bind (wpAny_load ho ?_)
           rw [hc, hd]
           show wpAny M A (if (["enumerate", "zip", "dict_itemiterator", "dict_reverseitemiterator", "odict_iterator", "itertools.zip_longest", "itertools.pairwise"].contains n && vs[0]? == some (rawInt _)) = true then _ else _) Q E s
           rw [if_neg (by intro h; rw [hn, Bool.false_and] at h; cases h)]
           exact wpAny_pure hQ))

/-- the list at a, as it stands at each turn (a loop may append to it) -/
def Itl (K : PySem.W.Frag) (a : Addr) : It :=
  ⟨fun i H => ∃ xs x, SqL K H a xs ∧ xs[i]? = some x, fun i H x H' => H' = H ∧ ∀ xs, SqL K H a xs → xs[i]? = some x, fun i H => ∃ xs, SqL K H a xs ∧ xs.length ≤ i⟩
def Itt (K : PySem.W.Frag) (a : Addr) : It :=
  ⟨fun i H => ∃ xs x, SqT K H a xs ∧ xs[i]? = some x, fun i H x H' => H' = H ∧ ∀ xs, SqT K H a xs → xs[i]? = some x, fun i H => ∃ xs, SqT K H a xs ∧ xs.length ≤ i⟩
/-- lo, lo + 1, .. (n of them) -/
def Itr (lo : Int) (n : Nat) : It := ⟨fun i _ => i < n, fun i H x H' => H' = H ∧ x = .int (lo + i), fun i _ => n ≤ i⟩
theorem turn_list {P : Program} {w : World} {K : PySem.W.Frag} {tg : Expr} (a it : Addr) : Turn P w K tg (Itl K a) [it] it (fun i h => h.IsListIter it a i) where
  mem := by simp
  obj := fun i h st b hb => by
    have e : b = it := by simpa using hb
    subst e
    obtain ⟨o, e, c, d⟩ := st
    exact ⟨o, e, fun v z => by rw [d] at z; cases z⟩
  keep := fun i h h' st k => st.at fun o e => k it (by simp) o e
  item := by
    intro X hP hw hK hc i pins s σ H E I hf st hg
    subst hP hw hK
    obtain ⟨xs, x, hq, hx⟩ := hg
    obtain ⟨its, rv, p, hz⟩ := I.list hq
    obtain ⟨u, hu, ru⟩ := rv.get hx
    obtain ⟨f0, f1, f2, f3, f4, f5⟩ := hf it (by simp)
    refine wpAny_pyNext_list_item st p.isList (x := u) (by simpa using hu) fun h' st' sb => ?_
    have I1 : Inv X pins σ H { s with heap := h' } := I.turned (t' := s.toks) (fun b o hb e => (sb.2 b hb).trans e) f0 f1 f3 f4 f5
    obtain ⟨o, e, c, d⟩ := id st'
    exact ⟨u, rfl, go_of (s := { s with heap := h' }) e c d (by decide) ⟨x, H, I1, ru, ⟨rfl, fun ys hy => by rw [I.list_inj hy hq]; exact hx⟩, st', fun b hb => (hf b hb).1⟩⟩
  done := by
    intro X hP hw hK hc i pins s σ H E I hf st hg
    subst hP hw hK
    obtain ⟨xs, hq, hx⟩ := hg
    obtain ⟨its, rv, p, hz⟩ := I.list hq
    obtain ⟨f0, f1, f2, f3, f4, f5⟩ := hf it (by simp)
    have hl := rv.length
    exact wpAny_pyNext_list_end (I.ok.hd hc) st p.isList (by simp; omega) fun h' eb => ⟨rfl, I.turned (t' := s.toks) (fun b o hb e => eb b o hb e) f0 f1 f3 f4 f5⟩
  self := fun _ _ _ _ _ st h => wpAny_pyIter_listiter st h
theorem turn_tuple {P : Program} {w : World} {K : PySem.W.Frag} {tg : Expr} (a it : Addr) : Turn P w K tg (Itt K a) [it] it (fun i h => h.IsTupleIter it a i) where
  mem := by simp
  obj := fun i h st b hb => by
    have e : b = it := by simpa using hb
    subst e
    obtain ⟨o, e, c, d⟩ := st
    exact ⟨o, e, fun v z => by rw [d] at z; cases z⟩
  keep := fun i h h' st k => st.at fun o e => k it (by simp) o e
  item := by
    intro X hP hw hK hc i pins s σ H E I hf st hg
    subst hP hw hK
    obtain ⟨xs, x, hq, hx⟩ := hg
    obtain ⟨its, rv, p, hz⟩ := I.tuple hq
    obtain ⟨u, hu, ru⟩ := rv.get hx
    obtain ⟨f0, f1, f2, f3, f4, f5⟩ := hf it (by simp)
    refine wpAny_pyNext_tuple_item st (show s.heap.IsTuple a its.toArray from p) (x := u) (by simpa using hu) fun h' st' sb => ?_
    have I1 : Inv X pins σ H { s with heap := h' } := I.turned (t' := s.toks) (fun b o hb e => (sb.2 b hb).trans e) f0 f1 f3 f4 f5
    obtain ⟨o, e, c, d⟩ := id st'
    exact ⟨u, rfl, go_of (s := { s with heap := h' }) e c d (by decide) ⟨x, H, I1, ru, ⟨rfl, fun ys hy => by rw [I.tuple_inj hy hq]; exact hx⟩, st', fun b hb => (hf b hb).1⟩⟩
  done := by
    intro X hP hw hK hc i pins s σ H E I hf st hg
    subst hP hw hK
    obtain ⟨xs, hq, hx⟩ := hg
    obtain ⟨its, rv, p, hz⟩ := I.tuple hq
    obtain ⟨f0, f1, f2, f3, f4, f5⟩ := hf it (by simp)
    have hl := rv.length
    exact wpAny_pyNext_tuple_end (I.ok.hd hc) st (show s.heap.IsTuple a its.toArray from p) (by simp; omega) fun h' eb => ⟨rfl, I.turned (t' := s.toks) (fun b o hb e => eb b o hb e) f0 f1 f3 f4 f5⟩
  self := fun _ _ _ _ _ st h => wpAny_pyIter_tupleiter st h
theorem turn_range {P : Program} {w : World} {K : PySem.W.Frag} {tg : Expr} (it : Addr) (lo : Int) (n : Nat) : Turn P w K tg (Itr lo n) [it] it (fun i h => IsRangeIter h it (lo + (i : Nat) * 1) ((n : Int) - (i : Nat)) 1) where
  mem := by simp
  obj := fun i h st b hb => by
    have e : b = it := by simpa using hb
    subst e
    exact ⟨_, st, fun v z => by
      have z' : Data.fields _ = Data.cell v := z
      cases z'⟩
  keep := fun i h h' st k => k it (by simp) _ st
  item := by
    intro X hP hw hK hc i pins s σ H E I hf st hg
    subst hP hw hK
    obtain ⟨f0, f1, f2, f3, f4, f5⟩ := hf it (by simp)
    have W := Walks.range (prog := X.prog) (w := X.w) (I.ok.hd hc) it lo 1 n
    refine W.item i s _ _ hg st fun v h' tk hv st' kk => ?_
    obtain ⟨t, rfl⟩ := hv
    have I1 : Inv X pins σ H { s with heap := h', toks := tk } := I.turned (fun b o hb e => kk b o (by simpa using hb) e) f0 f1 f3 f4 f5
    refine ⟨_, rfl, go_of (s := { s with heap := h', toks := tk }) (n := "range_iterator") st' rfl rfl (by decide) ⟨.int (lo + i), H, I1, ⟨t, ?_⟩, ⟨rfl, rfl⟩, st', fun b hb => (hf b hb).1⟩⟩
    rw [Int.mul_one]
  done := by
    intro X hP hw hK hc i pins s σ H E I hf st hg
    subst hP hw hK
    obtain ⟨f0, f1, f2, f3, f4, f5⟩ := hf it (by simp)
    exact wpAny_pyNext_range_end (I.ok.hd hc) st (by have : n ≤ i := hg; omega) fun h' eb => ⟨rfl, I.turned (t' := s.toks) (fun b o hb e => eb b o hb e) f0 f1 f3 f4 f5⟩
  self := fun _ _ _ _ _ st h => wpAny_pyIter_rangeiter st h
end L2

namespace L2
open PySem PySem.Spec PyProof.Rows
section
variable {X : Cx} {tg : Expr}
def iList (K : PySem.W.Frag) (tl : TE) : TI := fun σ H R => tl σ H fun x H1 => ∃ a, x = .ref a ∧ (∃ xs, SqL K H1 a xs) ∧ R (Itl K a) H1
def iTup (K : PySem.W.Frag) (tl : TE) : TI := fun σ H R => tl σ H fun x H1 => ∃ a, x = .ref a ∧ (∃ xs, SqT K H1 a xs) ∧ R (Itt K a) H1
theorem pi_list {l : Expr} {tl : TE} (hl : PE X l tl) : PI X tg l (iList X.K tl) := by
  intro pins s σ H R I h
  refine thn (hl pins s σ H _ I h) fun v s1 ⟨x, H1, I1, r1, q1⟩ => ?_
  obtain ⟨a, e, ⟨xs, hq⟩, q⟩ := q1
  subst e
  cases r1
  obtain ⟨its, rv, p, hz⟩ := I1.list hq
  refine wpAny_pyIter_list p.isList ?_
  refine ⟨s1.heap.objs.size, [s1.heap.objs.size], _, _, H1, rfl, I1.kept (t' := s1.toks) fun b o e => Heap.get?_push_of_some _ e, turn_list a _, ⟨_, Heap.get?_push_size _ rfl, rfl, rfl⟩, fun b hb => ?_, q⟩
  have e : b = s1.heap.objs.size := by simpa using hb
  subst e
  exact I1.fpOk (Nat.le_refl _) (I1.hok.fresh (Nat.le_refl _))
theorem pi_tup {l : Expr} {tl : TE} (hl : PE X l tl) : PI X tg l (iTup X.K tl) := by
  intro pins s σ H R I h
  refine thn (hl pins s σ H _ I h) fun v s1 ⟨x, H1, I1, r1, q1⟩ => ?_
  obtain ⟨a, e, ⟨xs, hq⟩, q⟩ := q1
  subst e
  cases r1
  obtain ⟨its, rv, p, hz⟩ := I1.tuple hq
  refine wpAny_pyIter_tuple (show s1.heap.IsTuple a its.toArray from p) ?_
  refine ⟨s1.heap.objs.size, [s1.heap.objs.size], _, _, H1, rfl, I1.kept (t' := s1.toks) fun b o e => Heap.get?_push_of_some _ e, turn_tuple a _, ⟨_, Heap.get?_push_size _ rfl, rfl, rfl⟩, fun b hb => ?_, q⟩
  have e : b = s1.heap.objs.size := by simpa using hb
  subst e
  exact I1.fpOk (Nat.le_refl _) (I1.hok.fresh (Nat.le_refl _))
/-- a range object just made, walked -/
theorem range_it {pins : List (Addr × Obj)} {σ : St} {H : Hp} {s : Shared} {R : It → Hp → Prop} {E : Value → Shared → Prop} {lo hi : Int} {t u v : Tok} {tk : Nat} (I : Inv X pins σ H s) (h1 : -(2 ^ 62) ≤ lo) (h2 : lo < 2 ^ 62) (h3 : -(2 ^ 62) ≤ hi) (h4 : hi < 2 ^ 62)
    (q : R (Itr lo (hi - lo).toNat) H) : wpAny (model X.prog X.w) X.A (pyIter (.ref s.heap.objs.size)) (PIE X pins σ tg R) E { s with heap := s.heap.push { cls := .type "range", data := .fields #[.int lo t, .int hi u, .int 1 v] }, toks := tk } := by
  refine wpAny_pyIter_range (IsRange.new ..) (small_one h1 h2 h3 h4) ?_
  have I1 : Inv X pins σ H { s with heap := s.heap.push { cls := .type "range", data := .fields #[.int lo t, .int hi u, .int 1 v] }, toks := tk } := I.kept fun b o e => Heap.get?_push_of_some _ e
  refine ⟨(s.heap.push { cls := .type "range", data := .fields #[.int lo t, .int hi u, .int 1 v] }).objs.size, [(s.heap.push { cls := .type "range", data := .fields #[.int lo t, .int hi u, .int 1 v] }).objs.size], _, _, H, rfl,
    I1.kept (t' := tk) fun b o e => Heap.get?_push_of_some _ e, turn_range _ lo (hi - lo).toNat, ?_, fun b hb => ?_, q⟩
  · have e1 : lo + ((0 : Nat) : Int) * 1 = lo := by simp
    have e2 : (((hi - lo).toNat : Nat) : Int) - ((0 : Nat) : Int) = Builtin.Range.rangeSize lo hi 1 := by rw [rangeSize_one]; split <;> omega
    show IsRangeIter _ _ (lo + ((0 : Nat) : Int) * 1) ((((hi - lo).toNat : Nat) : Int) - ((0 : Nat) : Int)) 1
    rw [e1, e2]
    exact Heap.get?_push_size _ rfl
  · have e : b = (s.heap.push { cls := .type "range", data := .fields #[.int lo t, .int hi u, .int 1 v] }).objs.size := by simpa using hb
    subst e
    exact I1.fpOk (Nat.le_refl _) (I1.hok.fresh (Nat.le_refl _))
def iRng1 (ta : TA) : TI := fun σ H R => ta σ H fun vs H1 => ∃ j : Int, vs = [.int j] ∧ -(2 ^ 62) ≤ j ∧ j < 2 ^ 62 ∧ R (Itr 0 j.toNat) H1
def iRng2 (ta : TA) : TI := fun σ H R => ta σ H fun vs H1 => ∃ i j : Int, vs = [.int i, .int j] ∧ (-(2 ^ 62) ≤ i ∧ i < 2 ^ 62 ∧ -(2 ^ 62) ≤ j ∧ j < 2 ^ 62) ∧ R (Itr i (j - i).toNat) H1
theorem pi_range1 {a : Expr} {ta : TA} {p pos : Pos} (hg : Gl X "range") (hm : X.mg "range" = none) (ha : PA X [a] ta) (hs : starEach [a] X.env = [(false, eval a X.env)] := by rfl) : PI X tg (.Call (.Name "range" p) [a] [] pos) (iRng1 ta) := by
  intro pins s σ H R I h
  refine Call_ (ld_blt I hg hm boot_range (PyProof.Rows.callWith_type1 (thn (ha pos pins s σ H _ I h) fun us s1 ⟨vs, H1, I1, r1, q1⟩ => ?_) hs rfl))
  obtain ⟨j, e, q1, q2, q⟩ := q1
  subst e
  cases r1 with
  | cons r rr =>
    cases rr
    obtain ⟨t, rfl⟩ := r
    exact call_range_1 (range_it I1 (by omega) (by omega) q1 q2 (by simpa using q))
theorem pi_range2 {a b : Expr} {ta : TA} {p pos : Pos} (hg : Gl X "range") (hm : X.mg "range" = none) (ha : PA X [a, b] ta) (hs : starEach [a, b] X.env = [(false, eval a X.env), (false, eval b X.env)] := by rfl) (hs2 : starEach [b] X.env = [(false, eval b X.env)] := by rfl) :
    PI X tg (.Call (.Name "range" p) [a, b] [] pos) (iRng2 ta) := by
  intro pins s σ H R I h
  refine Call_ (ld_blt I hg hm boot_range (PyProof.Rows.callWith_type1 (thn (ha pos pins s σ H _ I h) fun us s1 ⟨vs, H1, I1, r1, q1⟩ => ?_) (by rw [hs, hs2]) (by rw [hs2]; rfl)))
  obtain ⟨i, j, e, ⟨q1, q2, q3, q4⟩, q⟩ := q1
  subst e
  cases r1 with
  | cons r rr =>
    cases rr with
    | cons r' rr =>
      cases rr
      obtain ⟨t, rfl⟩ := r
      obtain ⟨t', rfl⟩ := r'
      exact call_range_2 (range_it I1 q1 q2 q3 q4 q)

/-! ### for -/
/-- W: the invariant by the turn and a measure; N: what the body is to reach -/
def tFor (wi : TI) (g : TG) (tb : TS) : TS := fun D σ H => wi σ H fun J H1 => ∃ W : Nat → Nat → St → Hp → Prop, (∃ m, W 0 m σ H1) ∧ ∀ i m σ H, W i m σ H →
  (J.stop i H ∧ D.nx σ H) ∨ (J.go i H ∧ ∃ N : St → Hp → Prop, (∀ σ' H', N σ' H' → ∃ m', m' < m ∧ W (i + 1) m' σ' H') ∧ ∀ x H', J.yld i H x H' → g x σ H' fun σ2 H2 => tb { D with nx := N, ct := N, bk := D.nx } σ2 H2)
/-- the records at fp as they stand -/
def pinsAt (fp : List Addr) (h : Heap) : List (Addr × Obj) := fp.filterMap fun b => (h.get? b).map fun o => (b, o)
theorem mem_pinsAt {fp : List Addr} {h : Heap} {b : Addr} {o : Obj} (hb : b ∈ fp) (e : h.get? b = some o) : (b, o) ∈ pinsAt fp h := List.mem_filterMap.mpr ⟨b, hb, by rw [e]; rfl⟩
theorem of_pinsAt {fp : List Addr} {h : Heap} {p : Addr × Obj} (hp : p ∈ pinsAt fp h) : p.1 ∈ fp ∧ h.get? p.1 = some p.2 := by
  obtain ⟨b, hb, e⟩ := List.mem_filterMap.mp hp
  cases q : h.get? b with
  | none => rw [q] at e; cases e
  | some o =>
    rw [q] at e
    have e' : (b, o) = p := Option.some.inj e
    subst e'
    exact ⟨hb, q⟩
theorem Inv.pinned {pins : List (Addr × Obj)} {σ : St} {H : Hp} {s : Shared} {fp : List Addr} (I : Inv X pins σ H s) (hf : ∀ b ∈ fp, FpOk X pins H b) (ho : ∀ b ∈ fp, ∃ o, s.heap.get? b = some o ∧ ∀ v, o.data ≠ .cell v) : Inv X (pins ++ pinsAt fp s.heap) σ H s :=
  I.pins_of fun p hp => (List.mem_append.mp hp).elim (fun z => I.pin p (List.mem_append_right _ z)) fun z => by
    obtain ⟨hb, e⟩ := of_pinsAt z
    obtain ⟨f0, f1, f2, _⟩ := hf p.1 hb
    obtain ⟨o, e', d⟩ := ho p.1 hb
    rw [e] at e'; cases e'
    exact ⟨e, f0, f1, f2, d⟩
theorem Inv.unpinned {pins pl : List (Addr × Obj)} {σ : St} {H : Hp} {s : Shared} (I : Inv X (pins ++ pl) σ H s) : Inv X pins σ H s := I.pins_of fun p hp => I.pin p (List.mem_append_right _ (List.mem_append_left _ hp))
theorem ps_for {iter : Expr} {body : List Stmt} {wi : TI} {g : TG} {tb : TS} {pos : Pos} (hp : PassesOwn (model X.prog X.w) X.A X.env X.xe) (hc : X.calm = true) (hi : PI X tg iter wi) (hg : PG X tg g) (hb : PSs X body tb)
    (hs : ∀ x, foldedSetIterable iter X.env x = pure x := by intro _; rfl) : PS X (.For tg iter body [] pos) (tFor wi g tb) := by
  intro pins s σ H D I h
  refine wpAny_For (thn (hi pins s σ H _ I h) fun v s1 h1 => thn h1 fun itv s2 h2 => ?_) hs
  obtain ⟨it, fp, tn, J, H2, e, I2, T, st2, f2, W, ⟨m0, w0⟩, turn⟩ := h2
  subst e
  -- what stays true of the iterator's objects through the loop
  have stat : ∀ {H' : Hp}, (∀ b ∈ fp, H' b = none) → ∀ b ∈ fp, FpOk X pins H' b := fun hn b hb => ⟨hn b hb, (f2 b hb).2⟩
  refine codeAny_forLoop_any (fun n s' => ∃ i σ' H', Inv X pins σ' H' s' ∧ tn i s'.heap ∧ (∀ b ∈ fp, H' b = none) ∧ W i n σ' H') ?_ m0 ⟨0, σ, H2, I2, st2, fun b hb => (f2 b hb).1, w0⟩
  rintro n s3 ⟨i, σ3, H3, I3, st3, fr3, w3⟩
  rcases turn i n σ3 H3 w3 with ⟨stop, qn⟩ | ⟨go, N, hN, step⟩
  · refine wpAny_passesOwn hp (thn (T.done X rfl rfl rfl hc i pins s3 σ3 H3 X.xe I3 (stat fr3) st3 stop) fun r s4 ⟨hr, I4⟩ => ?_)
    subst hr
    exact wpAny_execs_nil ⟨σ3, H3, I4, qn⟩
  · refine wpAny_passesOwn hp (thn (T.item X rfl rfl rfl hc i pins s3 σ3 H3 X.xe I3 (stat fr3) st3 go) fun r s4 ⟨u, hr, h4⟩ => ?_)
    subst hr
    refine wpAny_passesOwn hp (thn h4 fun _ s5 ⟨x, H5, I5, r5, y5, st5, fr5⟩ => ?_)
    have I5' := I5.pinned (stat fr5) (T.obj _ _ st5)
    refine wpAny_passesOwn hp (thn (hg _ s5 σ3 H5 x u _ I5' r5 (step x H5 y5)) fun _ s6 ⟨σ6, H6, I6, q6⟩ => ?_)
    refine wpAny_passesOwn hp (thn (hb _ s6 σ6 H6 _ I6 q6) fun f s7 q7 => ?_)
    have again : ∀ {σ7 : St} {H7 : Hp}, Inv X (pins ++ pinsAt fp s5.heap) σ7 H7 s7 → N σ7 H7 → ∃ m, m < n ∧ ∃ i σ' H', Inv X pins σ' H' s7 ∧ tn i s7.heap ∧ (∀ b ∈ fp, H' b = none) ∧ W i m σ' H' := fun {σ7 H7} I7 n7 => by
      obtain ⟨m', hm, w7⟩ := hN σ7 H7 n7
      refine ⟨m', hm, i + 1, σ7, H7, I7.unpinned, T.keep _ _ _ st5 fun b hb o e => (I7.pin (b, o) (List.mem_append_right _ (List.mem_append_right _ (mem_pinsAt hb e)))).1, fun b hb => ?_, w7⟩
      obtain ⟨o, e, d⟩ := T.obj _ _ st5 b hb
      exact (I7.pin (b, o) (List.mem_append_right _ (List.mem_append_right _ (mem_pinsAt hb e)))).2.1
    cases f with
    | next => obtain ⟨σ7, H7, I7, n7⟩ := q7; exact again I7 n7
    | cont => obtain ⟨σ7, H7, I7, n7⟩ := q7; exact again I7 n7
    | brk => obtain ⟨σ7, H7, I7, q7⟩ := q7; exact ⟨σ7, H7, I7.unpinned, q7⟩
    | ret v => obtain ⟨x7, σ7, H7, I7, r7, q7⟩ := q7; exact ⟨x7, σ7, H7, I7.unpinned, r7, q7⟩
end

/-! ### the forms one uses -/
/-- over a list that the body leaves as it is -/
theorem for_list {K : PySem.W.Frag} {a : Addr} {xs : List V} {g : TG} {tb : TS} {D : Ends} {σ : St} {H : Hp} (Pv : Nat → St → Hp → Prop) (h0 : Pv 0 σ H) (hl : ∀ i σ H, i ≤ xs.length → Pv i σ H → SqL K H a xs)
    (hs : ∀ i x σ H, xs[i]? = some x → Pv i σ H → g x σ H fun σ2 H2 => tb { D with nx := Pv (i + 1), ct := Pv (i + 1), bk := D.nx } σ2 H2) (hd : ∀ σ H, Pv xs.length σ H → D.nx σ H) :
    ∃ W : Nat → Nat → St → Hp → Prop, (∃ m, W 0 m σ H) ∧ ∀ i m σ H, W i m σ H →
      ((Itl K a).stop i H ∧ D.nx σ H) ∨ ((Itl K a).go i H ∧ ∃ N : St → Hp → Prop, (∀ σ' H', N σ' H' → ∃ m', m' < m ∧ W (i + 1) m' σ' H') ∧ ∀ x H', (Itl K a).yld i H x H' → g x σ H' fun σ2 H2 => tb { D with nx := N, ct := N, bk := D.nx } σ2 H2) := by
  refine ⟨fun i m σ H => m = xs.length - i ∧ i ≤ xs.length ∧ Pv i σ H, ⟨xs.length, by simp, Nat.zero_le _, h0⟩, ?_⟩
  rintro i m σ H ⟨rfl, hi, p⟩
  have q := hl i σ H hi p
  by_cases hlt : i < xs.length
  · refine .inr ⟨⟨xs, xs[i], q, by simp [hlt]⟩, Pv (i + 1), fun σ' H' p' => ⟨xs.length - (i + 1), by omega, rfl, hlt, p'⟩, fun x H' y => ?_⟩
    obtain ⟨e, y⟩ := y
    subst e
    exact hs i x σ _ (y xs q) p
  · have e : i = xs.length := by omega
    subst e
    exact .inl ⟨⟨xs, q, Nat.le_refl _⟩, hd σ H p⟩
theorem for_tup {K : PySem.W.Frag} {a : Addr} {xs : List V} {g : TG} {tb : TS} {D : Ends} {σ : St} {H : Hp} (Pv : Nat → St → Hp → Prop) (h0 : Pv 0 σ H) (hl : ∀ i σ H, i ≤ xs.length → Pv i σ H → SqT K H a xs)
    (hs : ∀ i x σ H, xs[i]? = some x → Pv i σ H → g x σ H fun σ2 H2 => tb { D with nx := Pv (i + 1), ct := Pv (i + 1), bk := D.nx } σ2 H2) (hd : ∀ σ H, Pv xs.length σ H → D.nx σ H) :
    ∃ W : Nat → Nat → St → Hp → Prop, (∃ m, W 0 m σ H) ∧ ∀ i m σ H, W i m σ H →
      ((Itt K a).stop i H ∧ D.nx σ H) ∨ ((Itt K a).go i H ∧ ∃ N : St → Hp → Prop, (∀ σ' H', N σ' H' → ∃ m', m' < m ∧ W (i + 1) m' σ' H') ∧ ∀ x H', (Itt K a).yld i H x H' → g x σ H' fun σ2 H2 => tb { D with nx := N, ct := N, bk := D.nx } σ2 H2) := by
  refine ⟨fun i m σ H => m = xs.length - i ∧ i ≤ xs.length ∧ Pv i σ H, ⟨xs.length, by simp, Nat.zero_le _, h0⟩, ?_⟩
  rintro i m σ H ⟨rfl, hi, p⟩
  have q := hl i σ H hi p
  by_cases hlt : i < xs.length
  · refine .inr ⟨⟨xs, xs[i], q, by simp [hlt]⟩, Pv (i + 1), fun σ' H' p' => ⟨xs.length - (i + 1), by omega, rfl, hlt, p'⟩, fun x H' y => ?_⟩
    obtain ⟨e, y⟩ := y
    subst e
    exact hs i x σ _ (y xs q) p
  · have e : i = xs.length := by omega
    subst e
    exact .inl ⟨⟨xs, q, Nat.le_refl _⟩, hd σ H p⟩
theorem for_range {lo : Int} {n : Nat} {g : TG} {tb : TS} {D : Ends} {σ : St} {H : Hp} (Pv : Nat → St → Hp → Prop) (h0 : Pv 0 σ H)
    (hs : ∀ i σ H, i < n → Pv i σ H → g (.int (lo + i)) σ H fun σ2 H2 => tb { D with nx := Pv (i + 1), ct := Pv (i + 1), bk := D.nx } σ2 H2) (hd : ∀ σ H, Pv n σ H → D.nx σ H) :
    ∃ W : Nat → Nat → St → Hp → Prop, (∃ m, W 0 m σ H) ∧ ∀ i m σ H, W i m σ H →
      ((Itr lo n).stop i H ∧ D.nx σ H) ∨ ((Itr lo n).go i H ∧ ∃ N : St → Hp → Prop, (∀ σ' H', N σ' H' → ∃ m', m' < m ∧ W (i + 1) m' σ' H') ∧ ∀ x H', (Itr lo n).yld i H x H' → g x σ H' fun σ2 H2 => tb { D with nx := N, ct := N, bk := D.nx } σ2 H2) := by
  refine ⟨fun i m σ H => m = n - i ∧ i ≤ n ∧ Pv i σ H, ⟨n, by simp, Nat.zero_le _, h0⟩, ?_⟩
  rintro i m σ H ⟨rfl, hi, p⟩
  by_cases hlt : i < n
  · refine .inr ⟨hlt, Pv (i + 1), fun σ' H' p' => ⟨n - (i + 1), by omega, rfl, hlt, p'⟩, fun x H' y => ?_⟩
    obtain ⟨e, y⟩ := y
    subst e y
    exact hs i σ _ hlt p
  · have e : i = n := by omega
    subst e
    exact .inl ⟨Nat.le_refl _, hd σ H p⟩
end L2

namespace L2
open PySem PySem.Spec PyProof.Rows

abbrev R2 := V → V → Hp → VK → Prop
/-- a two-place operation on values: f is binaryOp op, inplaceOp op or compareOp op -/
def OpR (X : Cx) (f : Value → Value → Sem Value) (r : R2) : Prop :=
  ∀ (pins : List (Addr × Obj)) (s : Shared) (σ : St) (H : Hp) (x y : V) (v u : Value) (Q : VK), Inv X pins σ H s → RelV x v → RelV y u → r x y H Q →
    wpAny (model X.prog X.w) X.A (f v u) (EP X pins σ Q) X.xe s
/-- a one-place operation -/
def UnR (X : Cx) (f : Value → Sem Value) (r : V → Hp → VK → Prop) : Prop :=
  ∀ (pins : List (Addr × Obj)) (s : Shared) (σ : St) (H : Hp) (x : V) (v : Value) (Q : VK), Inv X pins σ H s → RelV x v → r x H Q →
    wpAny (model X.prog X.w) X.A (f v) (EP X pins σ Q) X.xe s
/-- a call of a value that is known (a builtin, a type) with values -/
def CallR (X : Cx) (f : Value) (r : List V → Hp → VK → Prop) : Prop :=
  ∀ (pins : List (Addr × Obj)) (s : Shared) (σ : St) (H : Hp) (xs : List V) (us : List Value) (Q : VK), Inv X pins σ H s → Vals xs us → r xs H Q →
    wpAny (model X.prog X.w) X.A (call f us) (EP X pins σ Q) X.xe s
/-- a value's truth -/
def TruR (X : Cx) (r : V → Hp → (Bool → Hp → Prop) → Prop) : Prop :=
  ∀ (pins : List (Addr × Obj)) (s : Shared) (σ : St) (H : Hp) (x : V) (v : Value) (Q : Bool → Hp → Prop), Inv X pins σ H s → RelV x v → r x H Q →
    wpAny (model X.prog X.w) X.A (truthy v) (TP X pins σ Q) X.xe s

def tOp (r : R2) (ta tb : TE) : TE := fun σ H Q => ta σ H fun x H1 => tb σ H1 fun y H2 => r x y H2 Q
def tUn (r : V → Hp → VK → Prop) (ta : TE) : TE := fun σ H Q => ta σ H fun x H1 => r x H1 Q
/-- ints in, under C, and a value out -/
def rI (C : Int → Int → Prop) (g : Int → Int → V) : R2 := fun x y H Q => ∃ i j, x = .int i ∧ y = .int j ∧ C i j ∧ Q (g i j) H
def rI0 (g : Int → Int → V) : R2 := fun x y H Q => ∃ i j, x = .int i ∧ y = .int j ∧ Q (g i j) H
def rU (g : Int → V) : V → Hp → VK → Prop := fun x H Q => ∃ i, x = .int i ∧ Q (g i) H

section
variable {X : Cx} {a b c : Expr} {ta tb tc : TE} {pos : Pos}

theorem binT (ha : PE X a ta) (hb : PE X b tb) {pins : List (Addr × Obj)} {s : Shared} {σ : St} {H : Hp} {R : V → V → Hp → Prop} (I : Inv X pins σ H s)
    (h : ta σ H fun x H1 => tb σ H1 fun y H2 => R x y H2) {Q : Value → Shared → Prop} {f : Value → Value → Sem Value}
    (hf : ∀ v u s2 x y H2, Inv X pins σ H2 s2 → RelV x v → RelV y u → R x y H2 → wpAny (model X.prog X.w) X.A (f v u) Q X.xe s2) :
    wpAny (model X.prog X.w) X.A (eval a X.env) (fun v s₁ => wpAny (model X.prog X.w) X.A (eval b X.env) (fun u s₂ => wpAny (model X.prog X.w) X.A (f v u) Q X.xe s₂) X.xe s₁) X.xe s := by
  refine thn (ha pins s σ H _ I h) fun v s1 ⟨x, H1, I1, r1, q1⟩ => ?_
  refine thn (hb pins s1 σ H1 _ I1 q1) fun u s2 ⟨y, H2, I2, r2, q2⟩ => ?_
  exact hf v u s2 x y H2 I2 r1 r2 q2

theorem pe_op {op : Operator} {r : R2} (ho : OpR X (binaryOp op) r) (ha : PE X a ta) (hb : PE X b tb) : PE X (.BinOp a op b pos) (tOp r ta tb) := by
  intro pins s σ H Q I h
  exact wpAny_BinOp (binT ha hb I h fun v u s2 x y H2 I2 rx ry q => ho pins s2 σ H2 x y v u Q I2 rx ry q)
theorem pe_un {op : UnaryOp} {r : V → Hp → VK → Prop} (ho : UnR X (unaryOp op) r) (ha : PE X a ta) : PE X (.UnaryOp op a pos) (tUn r ta) := by
  intro pins s σ H Q I h
  exact UnaryOp_ (thn (ha pins s σ H _ I h) fun v s1 ⟨x, H1, I1, r1, q1⟩ => ho pins s1 σ H1 x v Q I1 r1 q1)
/-! ### ints -/
theorem opI {f : Value → Value → Sem Value} {C : Int → Int → Prop} {g : Int → Int → Int}
    (rule : ∀ (i j : Int) (t u : Tok) (s : Shared) (Q : Value → Shared → Prop) (E : Value → Shared → Prop), C i j → Q (.int (g i j) s.toks) { s with toks := s.toks + 1 } → wpAny (model X.prog X.w) X.A (f (.int i t) (.int j u)) Q E s) :
    OpR X f (rI C fun i j => .int (g i j)) := by
  intro pins s σ H x y v u Q I rx ry h
  obtain ⟨i, j, rfl, rfl, hc, q⟩ := h
  obtain ⟨t, rfl⟩ := rx
  obtain ⟨t', rfl⟩ := ry
  exact rule i j t t' s _ _ hc ⟨.int (g i j), H, I.tok _, ⟨_, rfl⟩, q⟩
theorem opI0 {f : Value → Value → Sem Value} {g : Int → Int → Int}
    (rule : ∀ (i j : Int) (t u : Tok) (s : Shared) (Q : Value → Shared → Prop) (E : Value → Shared → Prop), Q (.int (g i j) s.toks) { s with toks := s.toks + 1 } → wpAny (model X.prog X.w) X.A (f (.int i t) (.int j u)) Q E s) :
    OpR X f (rI0 fun i j => .int (g i j)) := by
  intro pins s σ H x y v u Q I rx ry h
  obtain ⟨i, j, rfl, rfl, q⟩ := h
  obtain ⟨t, rfl⟩ := rx
  obtain ⟨t', rfl⟩ := ry
  exact rule i j t t' s _ _ ⟨.int (g i j), H, I.tok _, ⟨_, rfl⟩, q⟩
theorem opB0 {f : Value → Value → Sem Value} {g : Int → Int → Bool}
    (rule : ∀ (i j : Int) (t u : Tok) (s : Shared) (Q : Value → Shared → Prop) (E : Value → Shared → Prop), Q (.bool (g i j)) s → wpAny (model X.prog X.w) X.A (f (.int i t) (.int j u)) Q E s) :
    OpR X f (rI0 fun i j => .bl (g i j)) := by
  intro pins s σ H x y v u Q I rx ry h
  obtain ⟨i, j, rfl, rfl, q⟩ := h
  obtain ⟨t, rfl⟩ := rx
  obtain ⟨t', rfl⟩ := ry
  exact rule i j t t' s _ _ ⟨.bl (g i j), H, I, rfl, q⟩

def CDiv (i j : Int) : Prop := 0 < j ∧ j < 1073741824
def CDivN (i j : Int) : Prop := j ≠ 0 ∧ j.natAbs < 1073741824
def CPow (i j : Int) : Prop := 0 ≤ j ∧ j ≤ 1000000 ∧ i.natAbs < 2 ^ 64
def CMul (i j : Int) : Prop := (-(2 ^ 64) < i ∧ i < 2 ^ 64) ∨ (-(2 ^ 64) < j ∧ j < 2 ^ 64)
theorem CMul.ok {i j : Int} (h : CMul i j) : IntMulOk i j := by
  rcases h with ⟨h1, h2⟩ | ⟨h1, h2⟩
  · exact .of_left (intBits_le_64 h1 h2)
  · exact .of_right (intBits_le_64 h1 h2)
theorem op_add : OpR X (binaryOp .Add) (rI0 fun i j => .int (i + j)) := opI0 fun _ _ _ _ _ _ _ q => add_int q
theorem op_sub : OpR X (binaryOp .Sub) (rI0 fun i j => .int (i - j)) := opI0 fun _ _ _ _ _ _ _ q => sub_int q
theorem op_mul : OpR X (binaryOp .Mult) (rI CMul fun i j => .int (i * j)) := opI fun _ _ _ _ _ _ _ hc q => mul_int q hc.ok
/-- % by a positive divisor of any size -/
theorem op_mod : OpR X (binaryOp .Mod) (rI (fun _ j => 0 < j) fun i j => .int (i % j)) := opI fun i j _ _ _ _ _ hc q => by
  have h1 : (0 : Int) < j := hc
  exact mod_int' (by omega) (by rw [Int.fmod_eq_emod_of_nonneg i (by omega)]; exact q)
theorem op_pow : OpR X (binaryOp .Pow) (rI CPow fun i j => .int (i ^ j.toNat)) := opI fun _ _ _ _ _ _ _ hc q => pow_int_small hc.1 hc.2.1 hc.2.2 q
theorem unI {f : Value → Sem Value} {g : Int → Int}
    (rule : ∀ (i : Int) (t : Tok) (s : Shared) (Q : Value → Shared → Prop) (E : Value → Shared → Prop), Q (.int (g i) s.toks) { s with toks := s.toks + 1 } → wpAny (model X.prog X.w) X.A (f (.int i t)) Q E s) :
    UnR X f (rU fun i => .int (g i)) := by
  intro pins s σ H x v Q I rx h
  obtain ⟨i, rfl, q⟩ := h
  obtain ⟨t, rfl⟩ := rx
  exact rule i t s _ _ ⟨.int (g i), H, I.tok _, ⟨_, rfl⟩, q⟩
theorem un_neg : UnR X (unaryOp .USub) (rU fun i => .int (-i)) := unI fun _ _ _ _ _ q => neg_int q
/-! ### bools among ints: n += (a < b) -/
end

/-! ### comparisons -/
/-- the scalars that == tells apart as data does -/
def scal : V → V → Bool
  | .non, .non => true | .non, .int _ => true | .int _, .non => true | .non, .bl _ => true | .bl _, .non => true | .non, .str _ => true | .str _, .non => true
  | .int _, .int _ => true | .bl _, .bl _ => true | .str _, .str _ => true | .byt _, .byt _ => true
  | .int _, .str _ => true | .str _, .int _ => true | .bl _, .str _ => true | .str _, .bl _ => true
  | _, _ => false
def rEq : R2 := fun x y H Q => scal x y = true ∧ Q (.bl (decide (x = y))) H
def rNe : R2 := fun x y H Q => scal x y = true ∧ Q (.bl (!decide (x = y))) H

theorem dec_int {i j : Int} : decide (V.int i = V.int j) = (i == j) := by
  rw [Bool.eq_iff_iff]
  simp
theorem dec_bl {i j : Bool} : decide (V.bl i = V.bl j) = (i == j) := by
  rw [Bool.eq_iff_iff]
  simp
theorem dec_str {i j : Str} : decide (V.str i = V.str j) = (i == j) := by
  rw [Bool.eq_iff_iff]
  simp
theorem dec_byt {i j : Array UInt8} : decide (V.byt i = V.byt j) = (i.toList == j.toList) := by
  rw [Bool.eq_iff_iff]
  cases i
  cases j
  simp

section
variable {X : Cx} {a b c : Expr} {ta tb tc : TE} {pos : Pos}
theorem fin_bl {pins : List (Addr × Obj)} {σ : St} {H : Hp} {s : Shared} {Q : VK} {k k' : Bool} (I : Inv X pins σ H s) (q : Q (.bl k) H) (e : k = k') : EP X pins σ Q (.bool k') s := by
  subst e
  exact ⟨.bl k, H, I, rfl, q⟩
theorem op_eq : OpR X (compareOp .Eq) rEq := by
  intro pins s σ H x y v u Q I rx ry h
  obtain ⟨hs, q⟩ := h
  cases x with
  | non =>
    cases rx
    cases y with
    | non => cases ry; exact PySem.EqNone.eq_none_none (fin_bl I q (by simp))
    | bl j => cases ry; exact PySem.EqNone.eq_none_bool (fin_bl I q (by simp))
    | int j => obtain ⟨t', rfl⟩ := ry; exact PySem.EqNone.eq_none_int (fin_bl I q (by simp))
    | str j => obtain ⟨t', rfl⟩ := ry; exact PySem.EqNone.eq_none_str (fin_bl I q (by simp))
    | _ => exact absurd (show false = true from hs) Bool.false_ne_true
  | bl i =>
    cases rx
    cases y with
    | non => cases ry; exact PySem.EqNone.eq_bool_none (fin_bl I q (by simp))
    | bl j => cases ry; exact eq_bool (fin_bl I q dec_bl)
    | str j => obtain ⟨t', rfl⟩ := ry; exact PySem.EqMixed.eq_bool_str (fin_bl I q (by simp))
    | _ => exact absurd (show false = true from hs) Bool.false_ne_true
  | int i =>
    obtain ⟨t, rfl⟩ := rx
    cases y with
    | non => cases ry; exact PySem.EqNone.eq_int_none (fin_bl I q (by simp))
    | int j => obtain ⟨t', rfl⟩ := ry; exact eq_int (fin_bl I q dec_int)
    | str j => obtain ⟨t', rfl⟩ := ry; exact PySem.EqMixed.eq_int_str (fin_bl I q (by simp))
    | _ => exact absurd (show false = true from hs) Bool.false_ne_true
  | str i =>
    obtain ⟨t, rfl⟩ := rx
    cases y with
    | non => cases ry; exact PySem.EqNone.eq_str_none (fin_bl I q (by simp))
    | bl j => cases ry; exact PySem.EqMixed.eq_str_bool (fin_bl I q (by simp))
    | int j => obtain ⟨t', rfl⟩ := ry; exact PySem.EqMixed.eq_str_int (fin_bl I q (by simp))
    | str j => obtain ⟨t', rfl⟩ := ry; exact eq_str (fin_bl I q dec_str)
    | _ => exact absurd (show false = true from hs) Bool.false_ne_true
  | byt i =>
    obtain ⟨t, rfl⟩ := rx
    cases y with
    | byt j => obtain ⟨t', rfl⟩ := ry; exact PySem.W.eq_bytes (fin_bl I q dec_byt)
    | _ => exact absurd (show false = true from hs) Bool.false_ne_true
  | _ => cases y <;> exact absurd (show false = true from hs) Bool.false_ne_true
theorem op_ne : OpR X (compareOp .NotEq) rNe := by
  intro pins s σ H x y v u Q I rx ry h
  obtain ⟨hs, q⟩ := h
  cases x with
  | non =>
    cases rx
    cases y with
    | non => cases ry; exact PySem.EqNone.ne_none_none (fin_bl I q (by simp))
    | bl j => cases ry; exact PySem.EqNone.ne_none_bool (fin_bl I q (by simp))
    | int j => obtain ⟨t', rfl⟩ := ry; exact PySem.EqNone.ne_none_int (fin_bl I q (by simp))
    | str j => obtain ⟨t', rfl⟩ := ry; exact PySem.EqNone.ne_none_str (fin_bl I q (by simp))
    | _ => exact absurd (show false = true from hs) Bool.false_ne_true
  | bl i =>
    cases rx
    cases y with
    | non => cases ry; exact PySem.EqNone.ne_bool_none (fin_bl I q (by simp))
    | bl j => cases ry; exact ne_bool (fin_bl I q (congrArg not dec_bl))
    | str j => obtain ⟨t', rfl⟩ := ry; exact PySem.EqMixed.ne_bool_str (fin_bl I q (by simp))
    | _ => exact absurd (show false = true from hs) Bool.false_ne_true
  | int i =>
    obtain ⟨t, rfl⟩ := rx
    cases y with
    | non => cases ry; exact PySem.EqNone.ne_int_none (fin_bl I q (by simp))
    | int j => obtain ⟨t', rfl⟩ := ry; exact ne_int (fin_bl I q (congrArg not dec_int))
    | str j => obtain ⟨t', rfl⟩ := ry; exact PySem.EqMixed.ne_int_str (fin_bl I q (by simp))
    | _ => exact absurd (show false = true from hs) Bool.false_ne_true
  | str i =>
    obtain ⟨t, rfl⟩ := rx
    cases y with
    | non => cases ry; exact PySem.EqNone.ne_str_none (fin_bl I q (by simp))
    | bl j => cases ry; exact PySem.EqMixed.ne_str_bool (fin_bl I q (by simp))
    | int j => obtain ⟨t', rfl⟩ := ry; exact PySem.EqMixed.ne_str_int (fin_bl I q (by simp))
    | str j => obtain ⟨t', rfl⟩ := ry; exact ne_str (fin_bl I q (congrArg not dec_str))
    | _ => exact absurd (show false = true from hs) Bool.false_ne_true
  | byt i =>
    obtain ⟨t, rfl⟩ := rx
    cases y with
    | byt j => obtain ⟨t', rfl⟩ := ry; exact PySem.W.ne_bytes (fin_bl I q (congrArg not dec_byt))
    | _ => exact absurd (show false = true from hs) Bool.false_ne_true
  | _ => cases y <;> exact absurd (show false = true from hs) Bool.false_ne_true

theorem op_lt : OpR X (compareOp .Lt) (rI0 fun i j => .bl (decide (i < j))) := opB0 fun _ _ _ _ _ _ _ q => lt_int q
theorem op_le : OpR X (compareOp .LtE) (rI0 fun i j => .bl (decide (i ≤ j))) := opB0 fun _ _ _ _ _ _ _ q => le_int q
theorem op_gt : OpR X (compareOp .Gt) (rI0 fun i j => .bl (decide (j < i))) := opB0 fun _ _ _ _ _ _ _ q => gt_int q
theorem op_ge : OpR X (compareOp .GtE) (rI0 fun i j => .bl (decide (j ≤ i))) := opB0 fun _ _ _ _ _ _ _ q => ge_int q
/-- is, is not of two objects that are tracked lists or instances -/
def isObj : HO → Bool
  | .lst _ => true
  | .ins _ _ _ => true
  | _ => false
/-- two rules for one operation: by cases -/
theorem OpR.or {f : Value → Value → Sem Value} {r r' : R2} (h : OpR X f r) (h' : OpR X f r') : OpR X f (fun x y H Q => r x y H Q ∨ r' x y H Q) := by
  intro pins s σ H x y v u Q I rx ry q
  rcases q with q | q
  · exact h pins s σ H x y v u Q I rx ry q
  · exact h' pins s σ H x y v u Q I rx ry q

theorem nomark (b : Expr) {op : CmpOp} (h : op ≠ .In := by decide) (h2 : op ≠ .NotIn := by decide) : behindInMarks op b = false := by
  have e1 : (op == CmpOp.In) = false := by cases op <;> first | rfl | exact absurd rfl h
  have e2 : (op == CmpOp.NotIn) = false := by cases op <;> first | rfl | exact absurd rfl h2
  cases b <;> simp [behindInMarks, e1, e2]
/-- a comparison as a value; hm: nomark b, or (for in, not in) by with_unfolding_all rfl -/
theorem pe_cmpR {op : CmpOp} {r : R2} (ho : OpR X (compareOp op) r) (ha : PE X a ta) (hb : PE X b tb) (hm : behindInMarks op b = false) : PE X (.Compare a [op] [b] pos) (tOp r ta tb) := by
  intro pins s σ H Q I h
  exact wpAny_Compare1 (binT ha hb I h fun v u s2 x y H2 I2 rx ry q => ho pins s2 σ H2 x y v u Q I2 rx ry q) hm
/-- a reading of a value as a test -/
def tTest (t : TE) : TT := fun σ H Q => t σ H fun x H' => ∃ k, x = .bl k ∧ Q k H'
theorem pt_cmpR {op : CmpOp} {r : R2} (ho : OpR X (compareOp op) r) (ha : PE X a ta) (hb : PE X b tb) (hm : behindInMarks op b = false) : PT X (.Compare a [op] [b] pos) (tTest (tOp r ta tb)) := by
  intro pins s σ H Q I h
  refine wpAny_isTrue_Compare1 (thn (ha pins s σ H _ I h) fun v s1 ⟨x, H1, I1, r1, q1⟩ => thn (hb pins s1 σ H1 _ I1 q1) fun u s2 ⟨y, H2, I2, r2, q2⟩ =>
    thn (ho pins s2 σ H2 x y v u _ I2 r1 r2 q2) fun c s3 ⟨z, H3, I3, r3, k, e, q3⟩ => ?_) hm
  subst e
  cases r3
  exact wpAny_truthy_bool ⟨H3, I3, q3⟩
/-- a op1 b op2 c -/
def tChain (r r' : R2) (ta tb tc : TE) : TE := fun σ H Q => ta σ H fun x H1 => tb σ H1 fun y H2 => r x y H2 fun z H3 => ∃ k, z = .bl k ∧
  (if k = true then tc σ H3 fun w' H4 => r' y w' H4 Q else Q (.bl false) H3)
/-! ### truth -/
/-- a value's truth by the abstract heap -/
def TruV (K : PySem.W.Frag) (x : V) (H : Hp) (k : Bool) : Prop :=
  match x with
  | .non => k = false
  | .bl b => k = b
  | .int i => k = (i != 0)
  | .str y => y.length ≤ sizeLine ∧ k = ((y.length : Int) != 0)
  | .byt y => y.size ≤ sizeLine ∧ k = ((y.size : Int) != 0)
  | .ref p => (∃ xs, SqL K H p xs ∧ k = !xs.isEmpty) ∨ (∃ xs, SqT K H p xs ∧ k = !xs.isEmpty) ∨ ∃ kvs, H p = some (.dK kvs) ∧ k = !kvs.isEmpty
  | _ => False
theorem line63 : (sizeLine : Nat) < 2 ^ 63 := by rw [sizeLine_eq]; decide
/-! ### strs and bytes -/
def PlainIxT (b : Expr) : Prop := ∀ o i, subscripted b false o i = operate [o, i] (getItem o i)
/-! ### scalar builtins, by CallR -/
theorem vals1 {x : V} {us : List Value} (r : Vals [x] us) : ∃ u, us = [u] ∧ RelV x u := by
  cases r with
  | cons r1 r2 => cases r2; exact ⟨_, rfl, r1⟩
theorem vals2 {x y : V} {us : List Value} (r : Vals [x, y] us) : ∃ u w', us = [u, w'] ∧ RelV x u ∧ RelV y w' := by
  cases r with
  | cons r1 r2 =>
    cases r2 with
    | cons r3 r4 => cases r4; exact ⟨_, _, rfl, r1, r3⟩
theorem call_abs : CallR X (.builtin "abs") (fun xs H Q => ∃ i, xs = [.int i] ∧ Q (.int (if i < 0 then -i else i)) H) := by
  intro pins s σ H xs us Q I r h
  obtain ⟨i, rfl, q⟩ := h
  obtain ⟨u, rfl, t, rfl⟩ := vals1 r
  exact call_abs_int fun u tk => ⟨.int (if i < 0 then -i else i), H, I.tok _, ⟨_, rfl⟩, q⟩
theorem call_max2 (hc : X.calm = true) : CallR X (.builtin "max") (fun xs H Q => ∃ i j, xs = [.int i, .int j] ∧ Q (.int (if j > i then j else i)) H) := by
  intro pins s σ H xs us Q I r h
  obtain ⟨i, j, rfl, q⟩ := h
  obtain ⟨u, w', rfl, ⟨t, rfl⟩, ⟨t', rfl⟩⟩ := vals2 r
  refine max_two_ints (I.ok.hd hc) fun h' tk k => ⟨_, H, I.kept k, ?_, q⟩
  by_cases hj : j > i
  · rw [if_pos hj, if_pos hj]; exact ⟨_, rfl⟩
  · rw [if_neg hj, if_neg hj]; exact ⟨_, rfl⟩
theorem call_min2 (hc : X.calm = true) : CallR X (.builtin "min") (fun xs H Q => ∃ i j, xs = [.int i, .int j] ∧ Q (.int (if j < i then j else i)) H) := by
  intro pins s σ H xs us Q I r h
  obtain ⟨i, j, rfl, q⟩ := h
  obtain ⟨u, w', rfl, ⟨t, rfl⟩, ⟨t', rfl⟩⟩ := vals2 r
  refine min_two_ints (I.ok.hd hc) fun h' tk k => ⟨_, H, I.kept k, ?_, q⟩
  by_cases hj : j < i
  · rw [if_pos hj, if_pos hj]; exact ⟨_, rfl⟩
  · rw [if_neg hj, if_neg hj]; exact ⟨_, rfl⟩
/-- len of a str, a bytes, a list, a tuple -/
def LenV (K : PySem.W.Frag) (x : V) (H : Hp) (n : Nat) : Prop :=
  match x with
  | .str y => y.length ≤ sizeLine ∧ n = y.length
  | .byt y => y.size ≤ sizeLine ∧ n = y.size
  | .ref p => (∃ xs, SqL K H p xs ∧ n = xs.length) ∨ ∃ xs, SqT K H p xs ∧ n = xs.length
  | _ => False
end
end L2

namespace L2
open PySem PySem.Spec PyProof.Rows

/-! ### an instance, its attributes a map -/
structure ObjM (h : Heap) (x dx C : Addr) (mA : Str → Option Value) : Prop where
  obj : h.get? x = some (PySem.W.instObj C dx)
  ns : h.Ns1 dx mA
  ne : dx ≠ x

theorem lookIn_ns {h : Heap} {dx : Addr} {mA : Str → Option Value} (n : h.Ns1 dx mA) : ∃ od, h.get? dx = some od ∧ ∀ name, PySem.W.lookIn name od = some (mA name) := by
  obtain ⟨o, es, ep, ho, hd, hk, _, hm⟩ := n
  refine ⟨o, ho, fun name => ?_⟩
  have e := hm name
  unfold nsFind findBy at e
  rw [← Array.find?_toList] at e
  unfold PySem.W.lookIn
  rw [hd]
  dsimp only
  split
  · rename_i y q
    rw [q] at e
    exact congrArg some e
  · rename_i q
    rw [q] at e
    have a : es.toList.any (·.refKey) = false := by
      rw [List.any_eq_false]
      intro y hy
      obtain ⟨z, t, hkey⟩ := hk y (Array.mem_toList_iff.mp hy)
      simp [DictEntry.refKey, hkey]
    have a' : ¬ es.toList.any (·.refKey) = true := by rw [a]; exact Bool.false_ne_true
    rw [if_neg a']
    exact congrArg some e

theorem ObjM.look {h : Heap} {x dx C : Addr} {mA : Str → Option Value} (I : ObjM h x dx C mA) : ∃ od, PySem.W.InstAt h x (PySem.W.instObj C dx) C (some od) ∧ ∀ name, PySem.W.lookIn name od = some (mA name) :=
  let ⟨od, ho, hl⟩ := lookIn_ns I.ns
  ⟨od, ⟨I.obj, rfl, rfl, ho⟩, hl⟩

section
variable {prog : Program} {w : World} {A : Around} {E : Value → Shared → Prop} {s : Shared} {K : PySem.W.Frag} {x dx C f : Addr} {mA : Str → Option Value} {name : Str} {v : Value}

end

/-! ### the attributes as a list of pairs -/
def putF (f : Str) (v : V) : List (Str × V) → List (Str × V)
  | [] => [(f, v)]
  | (g, x) :: r => if g = f then (g, v) :: r else (g, x) :: putF f v r
section
variable {P : Program} {w : World} {H H' : Hp} {h h' : Heap} {a C dx : Addr} {fs fs' : List (Str × V)}
theorem ins_get (hok : HOk P w H h) (e : H a = some (.ins C dx fs)) : ∃ mA, ObjM h a dx C mA ∧ (∀ f, RelO (fs.lookup f) (mA f)) ∧ PySem.Within mA (fs.map (·.1)) ∧ fs.length ≤ 1000 ∧ H dx = some (.own a) := by
  obtain ⟨d, z, ne, ob, mA, n, r, q⟩ := (show ObjOk P w H h a (.ins C dx fs) from hok a _ e)
  exact ⟨mA, ⟨ob, n, ne⟩, r, q, z, d⟩
end

/-! ### what of the text a class must have -/
structure Cls (K : PySem.W.Frag) (C : Addr) : Prop where
  pg : PySem.W.plainGet K C Str.empty = true
  hd : PySem.W.hasDictIn K C = true
  po : PySem.W.plainOver K C = true
  sa : PySem.W.findIn K (.ref C) "__setattr__" = some (some (.builtin "object.__setattr__"))
theorem Cls.get {K : PySem.W.Frag} {C : Addr} (c : Cls K C) (f : Str) : PySem.W.plainGet K C f = true := c.pg
/-- no class of it has the name -/
def NoAttr (K : PySem.W.Frag) (C : Addr) (f : Str) : Prop := PySem.W.findIn K (.ref C) f = some none
/-- a constant of the class -/
structure Con (K : PySem.W.Frag) (C : Addr) (f : Str) (v : V) (u : Value) : Prop where
  at_ : PySem.W.findIn K (.ref C) f = some (some u)
  rel : RelV v u
  get : PySem.W.specialIn K u "__get__" = some none
  cp : PySem.W.copiedNames.contains f = false
/-- a method: a plain def of the class or of one above it -/
structure Meth (K : PySem.W.Frag) (C : Addr) (m : Str) (f : Addr) : Prop where
  at_ : PySem.W.findIn K (.ref C) m = some (some (.ref f))
  fn : PySem.W.isFn K (.ref f) = true
  kp : PySem.W.keepIn K (.ref f) = true

section
variable {X : Cx} {pins : List (Addr × Obj)} {σ : St} {H : Hp} {s : Shared} {a C dx : Addr} {fs : List (Str × V)} {f : Str} {v : V} {A : Around} {E : Value → Shared → Prop}

/-- a new instance, tracked, without attributes -/
theorem Inv.made (I : Inv X pins σ H s) : Inv X pins σ (upd (upd H s.heap.objs.size (.own (s.heap.objs.size + 1))) (s.heap.objs.size + 1) (.ins C s.heap.objs.size []))
    { s with heap := (s.heap.push PySem.W.emptyDict).push (PySem.W.instObj C s.heap.objs.size) } := by
  have e1 : (s.heap.push PySem.W.emptyDict).get? s.heap.objs.size = some PySem.W.emptyDict := Heap.get?_push_size s.heap rfl
  have e2 : ((s.heap.push PySem.W.emptyDict).push (PySem.W.instObj C s.heap.objs.size)).get? (s.heap.objs.size + 1) = some (PySem.W.instObj C s.heap.objs.size) := by
    have := Heap.get?_push_size (s.heap.push PySem.W.emptyDict) (o := PySem.W.instObj C s.heap.objs.size) rfl
    rwa [Heap.size_push] at this
  have e3 : (s.heap.push PySem.W.emptyDict).Ns s.heap.objs.size (fun _ => none) := ⟨PySem.W.emptyDict, #[], _, e1, rfl, (fun e he => absurd he (by simp)), fun _ => rfl⟩
  have I1 := I.laid (a := s.heap.objs.size) (o := .own (s.heap.objs.size + 1)) (h' := s.heap.push PySem.W.emptyDict) (t' := s.toks) (fun b u q => Heap.get?_push_of_some _ q) (Nat.le_refl _) ⟨_, e1⟩
  refine I1.laid (a := s.heap.objs.size + 1) (o := .ins C s.heap.objs.size []) (t' := s.toks) (fun b u q => Heap.get?_push_of_some _ q) (Nat.le_of_eq (Heap.size_push _ _)) ?_
  have ne : s.heap.objs.size ≠ s.heap.objs.size + 1 := Nat.ne_of_lt (Nat.lt_succ_self _)
  refine ⟨by rw [upd_ne ne, upd_same], Nat.zero_le _, ne, e2, fun _ => none, (Heap.Ns1.of_empty e3).at fun o q => Heap.get?_push_of_some _ q, fun _ => True.intro, fun y hy => absurd rfl hy⟩

end

/-! ### readings and rules -/
/-- e.f, an attribute of the instance -/
def tFld (K : PySem.W.Frag) (ta : TE) (f : Str) : TE := fun σ H Q => ta σ H fun x H1 => ∃ a C dx fs v, x = .ref a ∧ H1 a = some (.ins C dx fs) ∧ Cls K C ∧ NoAttr K C f ∧ fs.lookup f = some v ∧ Q v H1
/-- e.f, a constant of the class -/
def tCon (K : PySem.W.Frag) (ta : TE) (f : Str) : TE := fun σ H Q => ta σ H fun x H1 => ∃ a C dx fs v u, x = .ref a ∧ H1 a = some (.ins C dx fs) ∧ Cls K C ∧ Con K C f v u ∧ fs.lookup f = none ∧ Q v H1
/-- e.f = value -/
def sFld (K : PySem.W.Frag) (ta tv : TE) (f : Str) : TS := fun D σ H => tv σ H fun y H1 => ta σ H1 fun x H2 => ∃ a C dx fs, x = .ref a ∧ H2 a = some (.ins C dx fs) ∧ Cls K C ∧ NoAttr K C f ∧ fs.length < 1000 ∧
  D.nx σ (upd H2 a (.ins C dx (putF f y fs)))
/-- an augmented operator on two values -/
def InOp (X : Cx) (op : Operator) (rd : V → V → Hp → VK → Prop) : Prop :=
  ∀ (pins : List (Addr × Obj)) (s : Shared) (σ : St) (H : Hp) (x y : V) (u v : Value) (Q : VK), Inv X pins σ H s → RelV x u → RelV y v → rd x y H Q → wpAny (model X.prog X.w) X.A (inplaceOp op u v) (EP X pins σ Q) X.xe s
/-- e.f op= value -/
def sFldAug (K : PySem.W.Frag) (ta tv : TE) (rd : V → V → Hp → VK → Prop) (f : Str) : TS := fun D σ H => ta σ H fun x H1 => ∃ a C dx fs v, x = .ref a ∧ H1 a = some (.ins C dx fs) ∧ Cls K C ∧ NoAttr K C f ∧ fs.lookup f = some v ∧
  tv σ H1 fun y H2 => rd v y H2 fun z H3 => ∃ dx' fs', H3 a = some (.ins C dx' fs') ∧ fs'.length < 1000 ∧ D.nx σ (upd H3 a (.ins C dx' (putF f z fs')))

section
variable {X : Cx} {o e value : Expr} {f : Str} {pos pos' tpos : Pos} {ta tv : TE}
def rAdd : V → V → Hp → VK → Prop := fun x y H Q => ∃ i j, x = .int i ∧ y = .int j ∧ Q (.int (i + j)) H
def rSub : V → V → Hp → VK → Prop := fun x y H Q => ∃ i j, x = .int i ∧ y = .int j ∧ Q (.int (i - j)) H
end

/-! ### isinstance -/
section
variable {X : Cx} {pins : List (Addr × Obj)} {σ : St} {H : Hp} {s : Shared} {A : Around} {E : Value → Shared → Prop} {Q : Value → Shared → Prop} {c : Value} {b : Bool}
/-- the type of a value, as the fragment's deciders take it; for an instance its class -/
inductive TyOf (K : PySem.W.Frag) (H : Hp) : V → Value → Prop where
  | non : TyOf K H .non (.type "NoneType")
  | bl (x : Bool) : TyOf K H (.bl x) (.type "bool")
  | int (i : Int) : TyOf K H (.int i) (.type "int")
  | str (x : Str) : TyOf K H (.str x) (.type "str")
  | flt (x : UInt64) : TyOf K H (.flt x) (.type "float")
  | lst {a : Addr} {xs : List V} (e : H a = some (.lst xs)) : TyOf K H (.ref a) (.type "list")
  | frz {a : Addr} {o : Obj} {xs : List V} (e : H a = some (.frz o (.lst xs))) : TyOf K H (.ref a) (.type "list")
  | tup {a : Addr} {xs : List V} (e : H a = some (.tup xs)) : TyOf K H (.ref a) (.type "tuple")
  | dK {a : Addr} {kvs : List (Key × V)} (e : H a = some (.dK kvs)) : TyOf K H (.ref a) (.type "dict")
  | dT {a : Addr} {kvs : List (List Key × V)} (e : H a = some (.dT kvs)) : TyOf K H (.ref a) (.type "dict")
  | ins {a C dx : Addr} {fs : List (Str × V)} (e : H a = some (.ins C dx fs)) (cl : Cls K C) (ha : PySem.W.findIn K (.ref C) "__class__" = some (some (.builtin "object.__class__")))
      (hn : PySem.W.specialIn K (.builtin "object.__class__") "__get__" = some (some (.builtin "getset_descriptor.__get__"))) (htk : PySem.W.takesIn K (.builtin "object.__class__") = some true)
      (hm : PySem.W.mroIn K C (.type "object") = some true) : TyOf K H (.ref a) (.ref C)
/-- isinstance(x, c) for one class c, a built-in or an own one: kitOne's answer -/
theorem isinst_ok {x : V} {u t : Value} (I : Inv X pins σ H s) (rx : RelV x u) (ty : TyOf X.K H x t) (e : PySem.W.kitOne X.K t c = some b) (h : ∀ tk, Q (.bool b) { s with toks := tk }) :
    wpAny (model X.prog X.w) A (call (.builtin "isinstance") [u, c]) Q E s := by
  cases ty with
  | non => cases (show u = Value.none from rx); exact PySem.W.kia_one PySem.W.kitx_none I.kIn True.intro e (fun z => nomatch z) h
  | bl y => cases (show u = Value.bool y from rx); exact PySem.W.kia_one PySem.W.kitx_bool I.kIn True.intro e (fun z => nomatch z) h
  | int i => obtain ⟨t, q⟩ := (show ∃ t, u = Value.int i t from rx); cases q; exact PySem.W.kia_one PySem.W.kitx_int I.kIn True.intro e (fun z => nomatch z) h
  | str y => obtain ⟨t, q⟩ := (show ∃ t, u = Value.str y t from rx); cases q; exact PySem.W.kia_one PySem.W.kitx_str I.kIn True.intro e (fun z => nomatch z) h
  | flt y => obtain ⟨t, q⟩ := (show ∃ t, u = Value.float y t from rx); cases q; exact PySem.W.kia_one PySem.W.kitx_float I.kIn True.intro e (fun z => nomatch z) h
  | @lst a xs ea =>
    cases (show u = Value.ref a from rx)
    obtain ⟨_, _, n, _, h1⟩ := (show ObjOk X.prog X.w H s.heap a (.lst xs) from I.hok a _ ea)
    exact PySem.W.kia_one PySem.W.kitx_list I.kIn ⟨_, h1, rfl⟩ e (fun z => nomatch z) h
  | @frz a ob xs ea =>
    cases (show u = Value.ref a from rx)
    obtain ⟨_, _, _, n, _, h1⟩ := (show ObjOk X.prog X.w H s.heap a (.frz ob (.lst xs)) from I.hok a _ ea)
    exact PySem.W.kia_one PySem.W.kitx_list I.kIn ⟨_, h1, rfl⟩ e (fun z => nomatch z) h
  | @tup a xs ea =>
    cases (show u = Value.ref a from rx)
    obtain ⟨_, _, _, p⟩ := (show ObjOk X.prog X.w H s.heap a (.tup xs) from I.hok a _ ea)
    obtain ⟨o, h1, h2, _⟩ := p
    exact PySem.W.kia_one PySem.W.kitx_tuple I.kIn ⟨o, h1, h2⟩ e (fun z => nomatch z) h
  | @dK a kvs ea =>
    cases (show u = Value.ref a from rx)
    obtain ⟨_, _, vs, _, p⟩ := (show ObjOk X.prog X.w H s.heap a (.dK kvs) from I.hok a _ ea)
    obtain ⟨o, es, ep, h1, h2, _⟩ := p
    exact PySem.W.kia_one PySem.W.kitx_dict I.kIn ⟨o, h1, h2.1⟩ e (fun z => nomatch z) h
  | @dT a kvs ea =>
    cases (show u = Value.ref a from rx)
    obtain ⟨_, _, xs, _, o, es, ep, h1, h2, _⟩ := (show ObjOk X.prog X.w H s.heap a (.dT kvs) from I.hok a _ ea)
    exact PySem.W.kia_one PySem.W.kitx_dict I.kIn ⟨o, h1, h2.1⟩ e (fun z => nomatch z) h
  | @ins a C dx fs ea cl ha hn htk hm =>
    cases (show u = Value.ref a from rx)
    obtain ⟨mA, O, _⟩ := ins_get I.hok ea
    obtain ⟨od, J, _⟩ := O.look
    exact PySem.W.kia_one (PySem.W.kitx_own (cl.get _) cl.hd ha hn htk hm) I.kIn J e (fun z => nomatch z) h
end
end L2

namespace L2
open PySem PySem.Spec PyProof.Rows

/-! ### room -/
structure Room (k : Nat) (A : Around) : Prop where
  hd : A.handled = none
  dp : A.depth + 3 * k + 5 < recursionLimit
  un : A.units + 16 * k + 200 < cLine
theorem Room.mono {j k : Nat} {A : Around} (r : Room k A) (h : j ≤ k) : Room j A := ⟨r.hd, by have := r.dp; omega, by have := r.un; omega⟩
theorem Room.deeper {k : Nat} {A : Around} (r : Room (k + 1) A) (env : Env) : Room k (A.deeper env) :=
  ⟨r.hd, by have := r.dp; show A.depth + 1 + 3 * k + 5 < _; omega, by have := r.un; show A.units + 3 + 16 * k + 200 < _; omega⟩
theorem Room.in1 {k : Nat} {A : Around} (r : Room (k + 1) A) : Room k A.in1 :=
  ⟨r.hd, by have := r.dp; show A.depth + 3 * k + 5 < _; omega, by have := r.un; show A.units + 1 + 16 * k + 200 < _; omega⟩
theorem Room.depth {k : Nat} {A : Around} (r : Room k A) : A.depth < recursionLimit := by have := r.dp; omega
theorem Room.units {k : Nat} {A : Around} (r : Room k A) : A.units + 64 < cLine := by have := r.un; omega
/-! ### argument lists and displays -/
def tNil : TA := fun _ H Q => Q [] H
def tCons (ta : TE) (tr : TA) : TA := fun σ H Q => ta σ H fun x H1 => tr σ H1 fun xs H2 => Q (x :: xs) H2
section
variable {X : Cx} {e : Expr} {es : List Expr} {te : TE} {t : TA} {pos : Pos}
theorem pa_nil : PA X [] tNil := fun _ _ _ _ H Q I h => Calls.spliced_nil ⟨[], H, I, .nil, h⟩
theorem pa_cons (ha : PE X e te) (hr : PA X es t) (hs : starEach (e :: es) X.env = (false, eval e X.env) :: starEach es X.env := by rfl) : PA X (e :: es) (tCons te t) := by
  intro pos pins s σ H Q I h
  rw [hs]
  show wpAny _ _ (spliced ((false, eval e X.env) :: backTo pos (starEach es X.env))) _ _ s
  refine Calls.spliced_cons (thn (ha pins s σ H _ I h) fun u s1 ⟨x, H1, I1, r1, q1⟩ => ?_)
  exact thn (hr pos pins s1 σ H1 _ I1 q1) fun us s2 ⟨xs, H2, I2, r2, q2⟩ => ⟨x :: xs, H2, I2, .cons r1 r2, q2⟩

/-- a tuple, a list of written items -/
def tTup (t : TA) : TE := fun σ H Q => t σ H fun xs H1 => xs.length ≤ sizeLine ∧ ∀ p, H1 p = none → Q (.ref p) (upd H1 p (.tup xs))
def tLst (t : TA) : TE := fun σ H Q => t σ H fun xs H1 => xs.length ≤ sizeLine ∧ ∀ p, H1 p = none → Q (.ref p) (upd H1 p (.lst xs))
theorem pe_tup {x1} (h : PA X es t) : PE X (.Tuple es x1 pos) (tTup t) := by
  intro pins s σ H Q I hq
  refine wpAny_Tuple_spliced (thn (h pos pins s σ H _ I hq) fun us s1 ⟨xs, H1, I1, r, z, q⟩ => ⟨by rw [← r.length]; exact z, ?_⟩)
  have hf : H1 s1.heap.objs.size = none := I1.hok.fresh (Nat.le_refl _)
  refine ⟨.ref s1.heap.objs.size, upd H1 s1.heap.objs.size (.tup xs), I1.laid (t' := s1.toks) (fun b u e => Heap.get?_push_of_some _ e) (Nat.le_refl _) ?_, rfl, q _ hf⟩
  exact ⟨z, us, r, ⟨_, Heap.get?_push_size _ rfl, rfl, _, rfl⟩⟩
theorem pe_lst (h : PA X es t) : PE X (.List es pos) (tLst t) := by
  intro pins s σ H Q I hq
  refine wpAny_List_spliced (thn (h pos pins s σ H _ I hq) fun us s1 ⟨xs, H1, I1, r, z, q⟩ => ⟨by rw [← r.length]; exact z, ?_⟩)
  have hf : H1 s1.heap.objs.size = none := I1.hok.fresh (Nat.le_refl _)
  refine ⟨.ref s1.heap.objs.size, upd H1 s1.heap.objs.size (.lst xs), I1.laid (t' := s1.toks) (fun b u e => Heap.get?_push_of_some _ e) (Nat.le_refl _) ?_, rfl, q _ hf⟩
  exact ⟨z, us, 0, r, Heap.get?_push_size _ rfl⟩
end

/-! ### what a def promises -/
/-- a def's promise: the bound arguments in the parameters' order, the heap, the wanted end, the wanted exception -/
abbrev Sp := List V → Hp → VK → XK → Prop
/-- how an exception lies behind a call (file 08 gives it): the callers' frames, abstract heap and state ahead of the call, the wish, the exception, the state -/
abbrev CXT := List Env → Hp → Shared → XK → Value → Shared → Prop

/-- the state at a call -/
structure Env0 (P : Program) (w : World) (K : PySem.W.Frag) (mg : Str → Option Value) (base : Heap) (A : Around) (outer : List Env) (s : Shared) (H : Hp) : Prop where
  frames : A.frames = some outer
  mod : Mod K mg base
  bs : ∀ b o, base.get? b = some o → s.heap.get? b = some o ∧ H b = none
  bsz : base.objs.size ≤ s.heap.objs.size
  funs : s.heap.FunFrames base outer
  frf : ∀ b ∈ frs outer, H b = none
  hok : HOk P w H s.heap
  bare : AllBare s.gens
/-- a call's end -/
def CE (outer : List Env) (P : Program) (w : World) (H : Hp) (s : Shared) (Q : VK) (u : Value) (s' : Shared) : Prop :=
  ∃ v H', s'.os = s.os ∧ AllBare s'.gens ∧ Un (frs outer) [] H H' s.heap s'.heap ∧ HOk P w H' s'.heap ∧ RelV v u ∧ Q v H'
def CR (CX : CXT) (outer : List Env) (P : Program) (w : World) (H : Hp) (s : Shared) (Q : VK) (E : XK) (r : Result) (s' : Shared) : Prop :=
  match r with
  | .ok (.ret u) => CE outer P w H s Q u s'
  | .ok _ => False
  | .error e => CX outer H s E e s'
structure FnOk (P : Program) (w : World) (K : PySem.W.Frag) (mg : Str → Option Value) (base : Heap) (CX : CXT) (k : Nat) (f : Addr) (fd : FuncData) (ps : List Str) (sp : Sp) : Prop where
  len : ∀ vs H Q E, sp vs H Q E → vs.length = ps.length
  run : ∀ (A : Around) (outer : List Env) (s : Shared) (H : Hp) (args : Args) (us : List Value) (vs : List V) (Q : VK) (E : XK), Room k A → Env0 P w K mg base A outer s H → BindsTo s fd args (ps.zip us) → Vals vs us → sp vs H Q E →
    codeAny (model P w) A (.call (.ref f) args) (CR CX outer P w H s Q E) s
theorem FnOk.mono {P : Program} {w : World} {K : PySem.W.Frag} {mg : Str → Option Value} {base : Heap} {CX : CXT} {j k : Nat} {f : Addr} {fd : FuncData} {ps : List Str} {sp : Sp} (F : FnOk P w K mg base CX j f fd ps sp) (h : j ≤ k) :
    FnOk P w K mg base CX k f fd ps sp := ⟨F.len, fun A outer s H args us vs Q E hr => F.run A outer s H args us vs Q E (hr.mono h)⟩
theorem Env0.in1 {P : Program} {w : World} {K : PySem.W.Frag} {mg : Str → Option Value} {base : Heap} {A : Around} {outer : List Env} {s : Shared} {H : Hp} (e : Env0 P w K mg base A outer s H) :
    Env0 P w K mg base A.in1 outer s H := ⟨e.frames, e.mod, e.bs, e.bsz, e.funs, e.frf, e.hok, e.bare⟩

section
variable {X : Cx} {pins : List (Addr × Obj)} {σ : St} {H : Hp} {s s' : Shared}
/-- from a body: what a callee wants -/
theorem Inv.env0 (I : Inv X pins σ H s) : Env0 X.prog X.w X.K X.mg X.base X.A X.stack s H :=
  ⟨I.ok.frames, I.ok.mod, I.bs, Nat.le_trans I.ok.bsz I.sz, I.stack, I.stkFree, I.hok, I.bare⟩
/-- behind a call -/
theorem Inv.after {Q : VK} {u : Value} (I : Inv X pins σ H s) (h : CE X.stack X.prog X.w H s Q u s') : EP X pins σ Q u s' := by
  obtain ⟨v, H', os, bare, un, hok, r, q⟩ := h
  obtain ⟨hh, g, d, t, os'⟩ := s'
  obtain rfl : os' = s.os := os
  exact ⟨v, H', I.call (h' := hh) (g' := g) (d' := d) (t' := t) (ch := []) un hok bare (fun b z => absurd z (by simp)), r, q⟩
end

/-! ### calls -/
/-- f(..): the written arguments, then the defaults dvs; E: what is wanted of an exception -/
def tCall (sp : Sp) (dvs : List V) (E : XK) (t : TA) : TE := fun σ H Q => t σ H fun vs H1 => sp (vs ++ dvs) H1 Q E
/-- o.m(..) of an instance of the class at C -/
def tMeth (C : Addr) (m : Str) (sp : Sp) (dvs : List V) (E : XK) (ta : TE) (t : TA) : TE := fun σ H Q => ta σ H fun x H1 => ∃ a dx fs, x = .ref a ∧ H1 a = some (.ins C dx fs) ∧ fs.lookup m = none ∧
  t σ H1 fun vs H2 => sp (x :: (vs ++ dvs)) H2 Q E
/-- C(..): a new instance and its dict, then __init__ -/
def tMake (C : Addr) (sp : Sp) (dvs : List V) (E : XK) (t : TA) : TE := fun σ H Q => t σ H fun vs H1 => ∀ x dx, H1 x = none → H1 dx = none → dx ≠ x →
  sp (.ref x :: (vs ++ dvs)) (upd (upd H1 dx (.own x)) x (.ins C dx [])) (fun v H2 => v = .non ∧ Q (.ref x) H2) E

/-- how the parameters are bound: us the positional arguments, kw the keywords' values by name, ds the defaults that fill up -/
def Binds (K : PySem.W.Frag) (fd : FuncData) (ps : List Str) (ds : List Value) : Prop :=
  ∀ (s : Shared) (us : List Value), K.In s.heap → (us ++ ds).length = ps.length → BindsTo s fd ⟨us, []⟩ (ps.zip (us ++ ds))
/-- every parameter is given -/
theorem Binds.all {K : PySem.W.Frag} {fd : FuncData} {ps : List Str} (h : ∀ us : List Value, us.length = ps.length → bindArgs fd ⟨us, []⟩ = pure (ps.zip us)) : Binds K fd ps [] := fun s us _ hl => by
  rw [List.append_nil] at hl ⊢
  exact .of_eq (h us hl)

/-- an exception of a callee reaches what this body wants of exceptions -/
def Passes (CX : CXT) (X : Cx) (E : XK) : Prop := ∀ (pins : List (Addr × Obj)) (σ : St) (H : Hp) (s : Shared) (e : Value) (s' : Shared), Inv X pins σ H s → CX X.stack H s E e s' → X.xe e s'

section
variable {X : Cx} {CX : CXT} {k : Nat} {f C : Addr} {fd : FuncData} {ps : List Str} {sp : Sp} {dvs : List V} {ds : List Value} {E : XK} {x m : Str} {p pos apos : Pos} {e o : Expr} {es : List Expr} {ta : TE} {t : TA}

/-- the callee runs -/
theorem run_fn {pins : List (Addr × Obj)} {σ : St} {H : Hp} {s : Shared} {Q : VK} {us : List Value} {vs : List V} (F : FnOk X.prog X.w X.K X.mg X.base CX k f fd ps sp) (hr : Room k X.A) (hb : Binds X.K fd ps ds) (hd : Vals dvs ds) (hx : Passes CX X E)
    (I : Inv X pins σ H s) (r : Vals vs us) (h : sp (vs ++ dvs) H Q E) : wpAny (model X.prog X.w) X.A (call (.ref f) us) (EP X pins σ Q) X.xe s := by
  have r2 : Vals (vs ++ dvs) (us ++ ds) := r.append hd
  have hl : (us ++ ds).length = ps.length := by rw [← r2.length]; exact F.len _ _ _ _ h
  refine wpAny_call (codeAny_mono (F.run X.A X.stack s H ⟨us, []⟩ (us ++ ds) (vs ++ dvs) Q E hr I.env0 (hb s us I.kIn hl) r2 h) fun r s' hq => ?_)
  cases r with
  | error e => exact hx pins σ H s e s' I hq
  | ok fl =>
    cases fl with
    | ret u => exact I.after hq
    | next => exact False.elim hq
    | brk => exact False.elim hq
    | cont => exact False.elim hq

theorem pe_call (F : FnOk X.prog X.w X.K X.mg X.base CX k f fd ps sp) (hr : Room k X.A) (hg : Gl X x) (hm : X.mg x = some (.ref f)) (hk : PySem.W.keepIn X.K (.ref f) = true) (hb : Binds X.K fd ps ds) (hd : Vals dvs ds) (hx : Passes CX X E)
    (ha : PA X (e :: es) t) (hdb : (x == ("__debug__" : Str)) = false := by decide) (he : starEach (e :: es) X.env = (false, eval e X.env) :: starEach es X.env := by rfl) (hpl : (backTo pos (starEach es X.env)).any (·.1) = false := by rfl) :
    PE X (.Call (.Name x p) (e :: es) [] pos) (tCall sp dvs E t) := by
  intro pins s σ H Q I h
  refine wpAny_Call_Name_kw (ld_glob I hg hm ?_ hdb)
  refine PySem.W.callWith_K (h₀ := X.base) I.ok.mod.kin hk (thn (ha pos pins s σ H _ I h) fun us s1 ⟨vs, H1, I1, r, q⟩ => ⟨I1.kIn, ?_⟩) he hpl
  exact run_fn F hr hb hd hx I1 r q
/-- what a class must have to be made -/
structure Mk (K : PySem.W.Frag) (C f : Addr) : Prop where
  makes : PySem.W.makesIn K C = true
  init : PySem.W.findIn K (.ref C) "__init__" = some (some (.ref f))
  fn : PySem.W.isFn K (.ref f) = true
  kp : PySem.W.keepIn K (.ref C) = true

end

/-! ### keywords -/
/-- the values of the keywords, from the left -/
def PK (X : Cx) (kws : List Keyword) (t : TA) : Prop :=
  ∀ (pos : Pos) (pins : List (Addr × Obj)) (s : Shared) (σ : St) (H : Hp) (Q : List V → Hp → Prop), Inv X pins σ H s → t σ H Q → wpAny (model X.prog X.w) X.A (evalAll ((backToKw pos (keywordEach kws X.env)).map (·.2))) (AP X pins σ Q) X.xe s
section
variable {X : Cx} {CX : CXT} {k : Nat} {f C : Addr} {fd : FuncData} {ps ks : List Str} {sp : Sp} {E : XK} {x m : Str} {p pos apos kpos : Pos} {e o : Expr} {es : List Expr} {kws : List Keyword} {te ta : TE} {t tk : TA} {nm : Option Str}
/-- how a call with keywords binds: g puts the positional values us and the keywords' values ws (names ks) in the parameters' order, defaults among them -/
structure KBinds (K : PySem.W.Frag) (fd : FuncData) (ps ks : List Str) (g : List Value → List Value → List Value) (gV : List V → List V → List V) : Prop where
  to : ∀ (s : Shared) (us ws : List Value), K.In s.heap → (g us ws).length = ps.length → BindsTo s fd ⟨us, ks.zip ws⟩ (ps.zip (g us ws))
  rel : ∀ {vs : List V} {us : List Value} {zs : List V} {ws : List Value}, Vals vs us → Vals zs ws → Vals (gV vs zs) (g us ws)
def tCallK (sp : Sp) (gV : List V → List V → List V) (E : XK) (t tk : TA) : TE := fun σ H Q => t σ H fun vs H1 => tk σ H1 fun zs H2 => sp (gV vs zs) H2 Q E
variable {g : List Value → List Value → List Value} {gV : List V → List V → List V}
end

/-! ### a def's body keeps its promise -/
/-- names: the parameters first -/
structure FnScope (N P : List Str) (sc : Scope) : Prop where
  kind : sc.kind = .function
  co : sc.isCoroutine = false
  gen : sc.isGenerator = false
  nd : N.Nodup
  pre : N.take P.length = P
  par : ∀ x ∈ P, sc.names.lookup x = some .local ∨ sc.names.lookup x = some .cell
  nofree : ∀ y ∈ sc.names, y.2 ≠ .free

theorem bindL_out {kindOf : Str → Option NameKind} {x : Str} : ∀ {binds : List (Str × Value)} {m : Str → Option Value}, (∀ v, (x, v) ∉ binds) → bindL kindOf binds m x = m x
  | [], _, _ => rfl
  | (n, v) :: r, m, h => by
    unfold bindL
    rw [bindL_out fun w hw => h w (List.mem_cons_of_mem _ hw)]
    split
    · have : x ≠ n := by rintro rfl; exact h v List.mem_cons_self
      simp [this]
    · rfl
theorem bindC_out {kindOf : Str → Option NameKind} {x : Str} : ∀ {binds : List (Str × Value)} {m : Str → Option Value}, (∀ v, (x, v) ∉ binds) → bindC kindOf binds m x = m x
  | [], _, _ => rfl
  | (n, v) :: r, m, h => by
    unfold bindC
    rw [bindC_out fun w hw => h w (List.mem_cons_of_mem _ hw)]
    split
    · rfl
    · have : x ≠ n := by rintro rfl; exact h v List.mem_cons_self
      simp [this]
theorem bindL_get {kindOf : Str → Option NameKind} {x : Str} {v : Value} : ∀ {P : List Str} {vs : List Value} {i : Nat} {m : Str → Option Value}, P.Nodup → P[i]? = some x → vs[i]? = some v → kindOf x = some .local →
    bindL kindOf (P.zip vs) m x = some v
  | [], _, _, _, _, h, _, _ => by simp at h
  | _ :: _, [], _, _, _, _, h, _ => by simp at h
  | p :: P, w :: vs, 0, m, nd, h1, h2, hk => by
    simp at h1 h2; subst h1; subst h2
    show bindL kindOf ((p, w) :: P.zip vs) m p = _
    unfold bindL
    rw [bindL_out fun v hv => (List.nodup_cons.mp nd).1 (List.of_mem_zip hv).1, if_pos hk]
    simp
  | p :: P, w :: vs, i + 1, m, nd, h1, h2, hk => by
    show bindL kindOf ((p, w) :: P.zip vs) m x = _
    unfold bindL
    exact bindL_get (i := i) (List.nodup_cons.mp nd).2 (by simpa using h1) (by simpa using h2) hk
theorem bindC_get {kindOf : Str → Option NameKind} {x : Str} {v : Value} : ∀ {P : List Str} {vs : List Value} {i : Nat} {m : Str → Option Value}, P.Nodup → P[i]? = some x → vs[i]? = some v → kindOf x ≠ some .local →
    bindC kindOf (P.zip vs) m x = some v
  | [], _, _, _, _, h, _, _ => by simp at h
  | _ :: _, [], _, _, _, _, h, _ => by simp at h
  | p :: P, w :: vs, 0, m, nd, h1, h2, hk => by
    simp at h1 h2; subst h1; subst h2
    show bindC kindOf ((p, w) :: P.zip vs) m p = _
    unfold bindC
    rw [bindC_out fun v hv => (List.nodup_cons.mp nd).1 (List.of_mem_zip hv).1, if_neg hk]
    simp
  | p :: P, w :: vs, i + 1, m, nd, h1, h2, hk => by
    show bindC kindOf ((p, w) :: P.zip vs) m x = _
    unfold bindC
    exact bindC_get (i := i) (List.nodup_cons.mp nd).2 (by simpa using h1) (by simpa using h2) hk

/-- the names' values at the entry -/
def start (N : List Str) (vs : List V) : St := vs.map some ++ List.replicate (N.length - vs.length) none

/-- the context of a def's body, at its entry; an exception leaves the frame, then lies as CX says -/
def cxOf (CX : CXT) (P : Program) (w : World) (K : PySem.W.Frag) (mg : Str → Option Value) (base : Heap) (N : List Str) (qual : Str) (scope : Scope) (f : Addr) (cd : Value) (A : Around) (outer : List Env) (s : Shared) (H : Hp) (E : XK) : Cx where
  prog := P
  w := w
  K := K
  mg := mg
  base := base
  A := A.deeper (envOfC qual scope s.heap.objs.size f cd)
  N := N
  s₀ := s
  H₀ := H
  env := envOfC qual scope s.heap.objs.size f cd
  outer := outer
  stack := envOfC qual scope s.heap.objs.size f cd :: outer
  ex := []
  calm := true
  fn := fun _ => true
  pn := []
  xe := fun e s' => wpAny (model P w) (A.deeper (envOfC qual scope s.heap.objs.size f cd)) (leaving (envOfC qual scope s.heap.objs.size f cd) e) (fun _ s'' => CX outer H s E e s'') (fun e' s'' => CX outer H s E e' s'') s'

theorem cell_has {sc : Scope} {n : Nat} {x : Str} (h : sc.names.lookup x = some .cell) : ∃ c, (cellsFrom n sc.names []).lookup x = some c := by
  have q := PySem.W.cellsFrom_some sc.names n [] (.inl h)
  exact Option.isSome_iff_exists.mp q

theorem inv_start {CX : CXT} {P : Program} {w : World} {K : PySem.W.Frag} {mg : Str → Option Value} {base : Heap} {N ps : List Str} {qual : Str} {scope : Scope} {f : Addr} {cd : Value} {A : Around} {outer : List Env} {s s1 : Shared} {H : Hp} {E : XK} {us : List Value} {vs : List V}
    (S : FnScope N ps scope) (hd : A.handled = none) (e0 : Env0 P w K mg base A outer s H) (hl : vs.length = ps.length) (r : Vals vs us)
    (x : InCallC s s.heap.objs.size (bindL (envOfC qual scope s.heap.objs.size f cd).kindOf (ps.zip us) fun _ => none) (cellsFrom (s.heap.objs.size + 1) scope.names []) (bindC (envOfC qual scope s.heap.objs.size f cd).kindOf (ps.zip us) fun _ => none) s1) :
    Inv (cxOf CX P w K mg base N qual scope f cd A outer s H E) [] (start N vs) H s1 := by
  have hpl : ps.length ≤ N.length := by have := congrArg List.length S.pre; rw [List.length_take] at this; omega
  obtain ⟨h1, tk, rfl, hk⟩ := x.done
  have noA : ∀ b : Addr, b ∉ (cxOf CX P w K mg base N qual scope f cd A outer s H E).ex := fun b z => absurd (show b ∈ ([] : List Addr) from z) (by simp)
  refine ⟨⟨e0.mod, S.kind, rfl, rfl, Nat.le_refl _, fun y z c h1 h2 => ?_, fun y hy => ?_, fun y c _ h => ?_, fun _ => hd, Around.frames_deeper e0.frames, .inr ⟨rfl, rfl⟩, fun b z => absurd z (noA b), e0.bs, e0.bsz, fun b _ _ => noA b, fun b z => absurd z (noA b), e0.funs, e0.frf⟩,
    rfl, e0.bare, Un.kept hk, ⟨_, x.toInCall.ns, fun i y v h1 h2 h3 => ?_⟩, fun y c h => ⟨_, x.cell y c h⟩, e0.hok.fresh (Nat.le_refl _), fun y c h => ?_, fun p hp => absurd (show p ∈ ([] : List (Addr × Obj)) from hp) (by simp), e0.hok.kept hk, ?_⟩
  · exact name_of_addr x.apart (PySem.mem_of_lookup h1) (PySem.mem_of_lookup h2)
  · have hy : scope.names.lookup y = some .cell ∨ scope.names.lookup y = some .free := hy
    rcases hy with hy | hy
    · exact cell_has hy
    · exact absurd rfl (S.nofree _ (PySem.mem_of_lookup hy))
  · exact Nat.le_of_lt (x.above y c (PySem.mem_of_lookup h))
  · have hi : i < vs.length := by
      unfold start at h2
      by_cases hi : i < vs.length
      · exact hi
      · rw [List.getElem?_append_right (by simpa using hi)] at h2
        rw [List.getElem?_replicate] at h2
        split at h2 <;> cases h2
    have ha : vs[i]? = some v := by
      unfold start at h2
      rw [List.getElem?_append_left (by simpa using hi), List.getElem?_map] at h2
      cases e : vs[i]? with
      | none => rw [e] at h2; cases h2
      | some a => rw [e] at h2; cases h2; rfl
    obtain ⟨u, hu, rv⟩ := r.get ha
    have hp : ps[i]? = some y := by
      rw [← S.pre, List.getElem?_take_of_lt (by omega)]; exact h1
    have ndP : ps.Nodup := by rw [← S.pre]; exact S.nd.sublist (List.take_sublist _ _)
    refine ⟨u, rv, ?_⟩
    rcases S.par y (List.mem_of_getElem? hp) with k | k
    · exact .inl ⟨k, bindL_get ndP hp hu k⟩
    · obtain ⟨c, e⟩ := cell_has (n := s.heap.objs.size + 1) k
      refine .inr ⟨.inl k, c, e, ?_⟩
      have q := x.cell y c e
      rw [bindC_get ndP hp hu (by show scope.names.lookup y ≠ _; rw [k]; decide)] at q
      exact q
  · exact e0.hok.fresh (Nat.le_of_lt (x.above y c (PySem.mem_of_lookup h)))
  · unfold start
    show _ = N.length
    rw [List.length_append, List.length_map, List.length_replicate]
    omega

/-- THE RULE: a def (or a method) of the text, by its body. The body's reading t is chosen for each entry; it is run at the parameters' values -/
theorem fn_of {CX : CXT} {P : Program} {w : World} {K : PySem.W.Frag} {mg : Str → Option Value} {base : Heap} {k : Nat} {f : Addr} {name qual : Str} {params : Arguments} {body : List Stmt} {scope : Scope} {dV kV doc pm cdv ct oc : Value} {an od : Option Addr}
    {osl : Array (Option Value)} {N ps : List Str} {sp : Sp} (lk : K.lookup f = some ⟨oc, od, .func (PySem.W.fnOf name qual params body scope dV kV doc pm an cdv ct), osl⟩) (hcd : PySem.W.codeIn K cdv qual = true) (S : FnScope N ps scope)
    (len : ∀ vs H Q E, sp vs H Q E → vs.length = ps.length)
    (hbody : ∀ (A : Around) (outer : List Env) (s : Shared) (H : Hp) (vs : List V) (Q : VK) (E : XK), Room k (A.deeper (envOfC qual scope s.heap.objs.size f cdv)) → sp vs H Q E →
      ∃ t, PSs (cxOf CX P w K mg base N qual scope f cdv A outer s H E) body t ∧ t { nx := fun _ H' => Q .non H', rt := Q } (start N vs) H) :
    FnOk P w K mg base CX (k + 1) f (PySem.W.fnOf name qual params body scope dV kV doc pm an cdv ct) ps sp := by
  refine ⟨len, fun A outer s H args us vs Q E hr e0 hb r hsp => ?_⟩
  have hl := len _ _ _ _ hsp
  have KX : K.In s.heap := e0.mod.kin.keeps fun b o e => (e0.bs b o e).1
  have lim : s.heap.NoLimit := e0.mod.nolimit.keeps fun b o e => (e0.bs b o e).1
  have hkind : ∀ y ∈ ps.zip us, scope.names.lookup y.1 = some .local ∨ (scope.names.lookup y.1 = some .cell ∧ ((cellsFrom (s.heap.objs.size + 1) scope.names []).lookup y.1).isSome = true) := fun ⟨n, v⟩ hy => by
    rcases S.par n (List.of_mem_zip hy).1 with q | q
    · exact .inl q
    · exact .inr ⟨q, PySem.W.cellsFrom_some _ _ _ (.inl q)⟩
  refine codeAny_call_function hr.depth (KX _ _ lk) rfl S.co S.gen rfl (PySem.W.codeRec_of KX hcd) (hb _ _ _ _ ?_)
  refine wpAny_newFunctionEnv_cells S.kind hkind fun env he s1 x => ?_
  subst he
  refine ⟨lim.keeps x.toInCall.keep, codeAny_func ?_⟩
  obtain ⟨t, ht, hq⟩ := hbody A outer s H vs Q E (hr.deeper _) hsp
  have I : Inv (cxOf CX P w K mg base N qual scope f cdv A outer s H E) [] (start N vs) H s1 := inv_start S hr.hd e0 hl r x
  refine wpAny_mono (ht [] s1 (start N vs) H _ I hq) (fun fl s' hs => ?_) fun e s' hs => hs
  have fin : ∀ {σ' : St} {H' : Hp} {v : V} {u : Value}, Inv (cxOf CX P w K mg base N qual scope f cdv A outer s H E) [] σ' H' s' → RelV v u → Q v H' → CE outer P w H s Q u s' :=
    fun {σ' H' v u} J rv q => ⟨v, H', J.os, J.bare, J.base, J.hok, rv, q⟩
  cases fl with
  | ret u =>
    obtain ⟨v, σ', H', J, rv, q⟩ := hs
    exact fin J rv q
  | next =>
    obtain ⟨σ', H', J, q⟩ := hs
    exact fin (v := V.non) (u := Value.none) J rfl q
  | brk =>
    obtain ⟨_, _, _, q⟩ := hs
    exact False.elim q
  | cont =>
    obtain ⟨_, _, _, q⟩ := hs
    exact False.elim q
end L2

namespace L2
open PySem PySem.Spec PyProof.Rows
section
variable {X : Cx} {x : Str} {p pos : Pos} {e : Expr} {es : List Expr} {t : TA} {id T : String} {r : List V → Hp → VK → Prop}

def tCB (r : List V → Hp → VK → Prop) (t : TA) : TE := fun σ H Q => t σ H fun vs H1 => r vs H1 Q
/-- f(e, ..), f a built-in function -/
theorem pe_callB (hc : CallR X (.builtin id) r) (hg : Gl X x) (hm : X.mg x = none) (hv : bootBuiltins x = some (.builtin id)) (ha : PA X (e :: es) t) (hn : x ≠ "__name__" := by decide) (hdb : (x == ("__debug__" : Str)) = false := by decide)
    (he : starEach (e :: es) X.env = (false, eval e X.env) :: starEach es X.env := by rfl) (hpl : (backTo pos (starEach es X.env)).any (·.1) = false := by rfl) : PE X (.Call (.Name x p) (e :: es) [] pos) (tCB r t) := by
  intro pins s σ H Q I h
  refine wpAny_Call_Name_kw (ld_blt I hg hm hv ?_ hn hdb)
  exact PyProof.Rows.callWith_builtin1 (thn (ha pos pins s σ H _ I h) fun us s1 ⟨vs, H1, I1, r1, q1⟩ => hc pins s1 σ H1 vs us Q I1 r1 q1) he hpl
/-- T(e, ..), T a built-in type -/
theorem pe_callTy (hc : CallR X (.type T) r) (hg : Gl X x) (hm : X.mg x = none) (hv : bootBuiltins x = some (.type T)) (ha : PA X (e :: es) t) (hn : x ≠ "__name__" := by decide) (hdb : (x == ("__debug__" : Str)) = false := by decide)
    (he : starEach (e :: es) X.env = (false, eval e X.env) :: starEach es X.env := by rfl) (hpl : (backTo pos (starEach es X.env)).any (·.1) = false := by rfl) : PE X (.Call (.Name x p) (e :: es) [] pos) (tCB r t) := by
  intro pins s σ H Q I h
  refine wpAny_Call_Name_kw (ld_blt I hg hm hv ?_ hn hdb)
  exact PyProof.Rows.callWith_type1 (thn (ha pos pins s σ H _ I h) fun us s1 ⟨vs, H1, I1, r1, q1⟩ => hc pins s1 σ H1 vs us Q I1 r1 q1) he hpl
end
end L2

namespace HT
open PySem PyProof.Rows

/-- t < u of tuples of ints -/
def lexLt : List Int → List Int → Bool
  | [], [] => false
  | [], _ :: _ => true
  | _ :: _, [] => false
  | x :: xs, y :: ys => if x = y then lexLt xs ys else decide (x < y)
theorem lexLt_cons (x y : Int) (xs ys : List Int) : lexLt (x :: xs) (y :: ys) = if x = y then lexLt xs ys else decide (x < y) := rfl
theorem lexLt_nil_nil : lexLt [] [] = false := rfl
theorem lexLt_nil_cons (y : Int) (ys : List Int) : lexLt [] (y :: ys) = true := rfl
theorem lexLt_cons_nil (x : Int) (xs : List Int) : lexLt (x :: xs) [] = false := rfl

theorem eqAt_int (A : Around) (s : Shared) (a : Int) (t : Tok) (c : Int) (u : Tok) : ∃ e, SeqAt.EqAt A s (.int a t) (.int c u) e ∧ (e = true ↔ a = c) :=
  ⟨(a == c), SeqAt.EqAt.int_int a t c u, by simp⟩
theorem rcLt_int (A : Around) (s : Shared) (a : Int) (t : Tok) (c : Int) (u : Tok) (prog : Program) (w : World) (E : Value → Shared → Prop) (Q : Value → Shared → Prop) (h : Q (.bool (decide (a < c))) s) :
    wpAny (model prog w) A (richCompare .Lt (.int a t) (.int c u)) Q E s :=
  (PyProof.Rows.lt_int h : wpAny (model prog w) A (compareOp .Lt (.int a t) (.int c u)) Q E s)

section
open PySem.SeqAt
open PySem.AutoSeq1 (wpAny_loadPart')
open PySem.MeetsSeq PySem.MeetsSeq2 PySem.MeetsSeq3

theorem tuple_lt_ints (l b : Addr) (items items2 : Array Value) (n n2 : Nat) (dd dd2 : Option Addr) (sl sl2 : Array (Option Value)) (ns ms : List Int) (hi : IntsAre items.toList ns) (hj : IntsAre items2.toList ms) :
    Meets (Builtin.«tuple.__lt__» ⟨[.ref l, .ref b], []⟩)
      (fun _ R s => s.heap.get? l = some { cls := .type "tuple", dict := dd, data := .seq items n, slots := sl } ∧ s.heap.get? b = some { cls := .type "tuple", dict := dd2, data := .seq items2 n2, slots := sl2 } ∧
        R (.ok (.ret (.bool (lexLt ns ms)))) s) :=
  .of_wp fun prog w A R s h => by
    obtain ⟨hp, g, d, tk, os⟩ := s; obtain ⟨hl, hb, h⟩ := h
    have f2 := AutoSeq1.sub_tuple_tuple
    have z1 : items.size = ns.length := by rw [← hi.length]; simp
    have z2 : items2.size = ms.length := by rw [← hj.length]; simp
    wp_walk using wpAny_loadPart' hl, wpAny_loadPart' hb, wpAny_forIn_list _ (fun rest b s' => b.1 = none ∧ s' = ⟨hp, g, d, tk, os⟩ ∧ ∃ (vs ws : List Value) (ns' ms' : List Int), rest = vs.zip ws ∧
      IntsAre vs ns' ∧ IntsAre ws ms' ∧ ns'.length + items2.size = ms'.length + items.size ∧ R (.ok (.ret (.bool (lexLt ns' ms')))) ⟨hp, g, d, tk, os⟩) _
    case turn =>
      rintro ⟨y, x⟩ rest b s' ⟨hb', rfl, vs, ws, ns', ms', hz, hvi, hwi, hlen, hR⟩
      cases hvi with
      | nil => rw [List.zip_nil_left] at hz; cases hz
      | cons a t hvi' =>
        cases hwi with
        | nil => rw [List.zip_nil_right] at hz; cases hz
        | cons c u hwi' =>
          rw [List.zip_cons_cons] at hz
          injection hz with hyx hrest
          injection hyx with hy hx
          subst hy hx
          rw [lexLt_cons] at hR
          simp only [List.length_cons] at hlen
          obtain ⟨e, he, hiff⟩ := eqAt_int A.in1 ⟨hp, g, d, tk, os⟩ a t c u
          refine wpAny_bind (he prog w _ _ ?_)
          cases e with
          | true =>
            rw [if_pos (hiff.mp rfl)] at hR
            wp_walk
            exact ⟨rfl, rfl, _, _, _, _, hrest, hvi', hwi', by omega, hR⟩
          | false =>
            rw [if_neg (fun q => absurd (hiff.mpr q) Bool.false_ne_true)] at hR
            have hri := rcLt_int A.in1 ⟨hp, g, d, tk, os⟩ a t c u prog w
            wp_walk using hri
            exact ⟨_, rfl, by simpa using hR⟩
    case fin =>
      rintro ⟨b1, b2⟩ s' ⟨hb', rfl, vs, ws, ns', ms', hz, hvi, hwi, hlen, hR⟩
      simp only at hb'
      subst hb'
      have hv : lexLt ns' ms' = decide (items.size < items2.size) := by
        cases hvi with
        | nil =>
          cases hwi with
          | nil =>
            simp only [List.length_nil] at hlen
            rw [lexLt_nil_nil]
            exact (decide_eq_false (by omega)).symm
          | cons c u hw =>
            simp only [List.length_nil, List.length_cons] at hlen
            rw [lexLt_nil_cons]
            exact (decide_eq_true (by omega)).symm
        | cons a t hv =>
          cases hwi with
          | nil =>
            simp only [List.length_nil, List.length_cons] at hlen
            rw [lexLt_cons_nil]
            exact (decide_eq_false (by omega)).symm
          | cons c u hw =>
            rw [List.zip_cons_cons] at hz
            cases hz
      rw [hv] at hR
      wp_walk
      exact ⟨_, rfl, by simpa [Builtin.Tuple.tupleCompareSizes] using hR⟩
    case h =>
      exact ⟨rfl, rfl, items.toList, items2.toList, ns, ms, rfl, hi, hj, by omega, h⟩
end

section
variable {prog : Program} {w : World} {A : Around} {E : Value → Shared → Prop} {s : Shared}

theorem lt_tupInts {l b : Addr} {items items2 : Array Value} {ns ms : List Int} {Q : Value → Shared → Prop} (hl : IsTup s.heap l items) (hb : IsTup s.heap b items2) (hi : IntsAre items.toList ns) (hj : IntsAre items2.toList ms)
    (hu : A.units < cLine) (h : Q (.bool (lexLt ns ms)) s) : wpAny (model prog w) A (compareOp .Lt (.ref l) (.ref b)) Q E s := by
  obtain ⟨⟨cls, dd, data, sl⟩, ho, hc, n, hd⟩ := id hl
  obtain ⟨⟨cls2, dd2, data2, sl2⟩, ho2, hc2, n2, hd2⟩ := id hb
  simp only at hc hd hc2 hd2
  subst hc hd hc2 hd2
  exact richCompare_meets_room (op := .Lt) ⟨_, ho, rfl⟩ ⟨_, ho2, rfl⟩ PySem.F.slot_tuple_lt PySem.F.entry_tuple_lt (PySem.F.args_tuple_lt_2 _ _) (tuple_lt_ints l b items items2 n n2 dd dd2 sl sl2 ns ms hi hj)
    ⟨ho, ho2, show Value.bool (lexLt ns ms) ≠ Value.notImplemented ∧ Q (.bool (lexLt ns ms)) s from ⟨(fun x => nomatch x), h⟩⟩ hu

/-! ### t[a:b], not the whole -/
/-- a slice's bound as a place among n (d where it is left out) -/
def sIx (n d : Nat) : Option Int → Nat
  | none => d
  | some v => if v < 0 then (v + (n : Int)).toNat else min v.toNat n
theorem sIx_none (n d : Nat) : sIx n d none = d := rfl
theorem sIx_nat (n d k : Nat) : sIx n d (some (k : Int)) = min k n := by
  show (if (k : Int) < 0 then ((k : Int) + (n : Int)).toNat else min (k : Int).toNat n) = min k n
  rw [if_neg (by omega), Int.toNat_natCast]
theorem sIx_le (n d : Nat) (hd : d ≤ n) (o : Option Int) : sIx n d o ≤ n := by
  cases o with
  | none => exact hd
  | some v =>
    show (if v < 0 then (v + (n : Int)).toNat else min v.toNat n) ≤ n
    by_cases hv : v < 0
    · rw [if_pos hv]; omega
    · rw [if_neg hv]; exact Nat.min_le_right _ _
theorem clip_eq (v : Int) (n d : Nat) : (if v < 0 then max (v + (n : Int)) 0 else min v (n : Int)) = ((sIx n d (some v) : Nat) : Int) := by
  show (if v < 0 then max (v + (n : Int)) 0 else min v (n : Int)) = (((if v < 0 then (v + (n : Int)).toNat else min v.toNat n) : Nat) : Int)
  by_cases hv : v < 0
  · simp only [if_pos hv]; omega
  · simp only [if_neg hv]; omega
theorem adjust_gen (lo hi : Option Int) (n : Nat) : Builtin.Slice.sliceAdjust lo hi 1 (n : Int) = (((sIx n 0 lo : Nat) : Int), ((sIx n n hi : Nat) : Int)) := by
  have h1 : ¬ ((1 : Int) < 0) := by omega
  unfold Builtin.Slice.sliceAdjust
  simp only [h1, if_false]
  refine Prod.ext ?_ ?_
  · cases lo with
    | none => rfl
    | some v => exact clip_eq v n 0
  · cases hi with
    | none => rfl
    | some v => exact clip_eq v n n
theorem places_gen (i j : Nat) : Builtin.Slice.slicePlaces (i : Int) (j : Int) 1 = j - i := by
  unfold Builtin.Slice.slicePlaces
  have h1 : (1 : Int) > 0 := by omega
  simp only [h1, if_true, Int.ediv_one]
  split <;> omega
theorem slicePart_ {v : Value} {o : Option Int} {Q : Option Int → Shared → Prop} (p : IsPart v o) (h : Q o s) : wpAny (model prog w) A (Builtin.Slice.slicePartIndex v) Q E s := by
  cases p with
  | none => exact slicePart_none h
  | int i t => exact slicePart_int h
theorem sliceApplied_gen {sl : Addr} {vl vu : Value} {lo hi : Option Int} {n : Nat} {Q : Int × Int × Nat → Shared → Prop} (hs : s.heap.IsSliceOf sl vl vu .none) (pl : IsPart vl lo) (pu : IsPart vu hi)
    (h : Q (((sIx n 0 lo : Nat) : Int), 1, sIx n n hi - sIx n 0 lo) s) : wpAny (model prog w) A (Builtin.Slice.sliceApplied (.ref sl) (pure (n : Int))) Q E s := by
  obtain ⟨os, hos, hcs, hds⟩ := id hs
  unfold Builtin.Slice.sliceApplied Builtin.Slice.sliceFields
  refine wpAny_bind (wpAny_bind (wpAny_field hos hds (x := vl) rfl (wpAny_bind (wpAny_field hos hds (x := vu) rfl (wpAny_bind (wpAny_field hos hds (x := .none) rfl (wpAny_pure ?_)))))))
  refine wpAny_bind (slicePart_none ?_)
  show wpAny _ _ (if ((1 : Int) == 0) = true then _ else _) _ _ s
  rw [if_neg (by decide)]
  refine wpAny_bind (slicePart_ pl (wpAny_bind (slicePart_ pu (wpAny_bind (wpAny_pure ?_)))))
  show wpAny _ _ (match Builtin.Slice.sliceAdjust lo hi 1 (n : Int) with | (lo, hi) => pure (lo, (1 : Int), Builtin.Slice.slicePlaces lo hi 1)) _ _ s
  rw [adjust_gen lo hi n]
  show wpAny _ _ (pure (((sIx n 0 lo : Nat) : Int), (1 : Int), Builtin.Slice.slicePlaces ((sIx n 0 lo : Nat) : Int) ((sIx n n hi : Nat) : Int) 1)) _ _ s
  rw [places_gen]
  exact wpAny_pure h
theorem pick_gen (xs : Array Value) (i k : Nat) : ((List.range k).filterMap fun (m : Nat) => xs[((i : Int) + (m : Int) * 1).toNat]?).toArray = ((xs.toList.drop i).take k).toArray := by
  have e : (fun (m : Nat) => xs[((i : Int) + (m : Int) * 1).toNat]?) = fun m => xs[i + m]? := by
    funext m
    have : ((i : Int) + (m : Int) * 1).toNat = i + m := by omega
    rw [this]
  rw [e]
  have := pick_run xs i k
  rw [List.filterMap_map] at this
  have e2 : ((fun x => xs[x]?) ∘ fun x => i + x) = fun m => xs[i + m]? := rfl
  rw [e2] at this
  rw [this]

theorem getItem_tuple_cut {t sl : Addr} {items : Array Value} {vl vu : Value} {lo hi : Option Int} {Q : Value → Shared → Prop} (ht : IsTup s.heap t items) (hs : s.heap.IsSliceOf sl vl vu .none) (pl : IsPart vl lo) (pu : IsPart vu hi)
    (hw : ¬ (sIx items.size 0 lo = 0 ∧ sIx items.size items.size hi = items.size))
    (h : Q (.ref s.heap.objs.size) { s with heap := s.heap.push { cls := .type "tuple", data := .seq ((items.toList.drop (sIx items.size 0 lo)).take (sIx items.size items.size hi - sIx items.size 0 lo)).toArray } })
    (hsz : items.size ≤ sizeLine) : wpAny (model prog w) A (getItem (.ref t) (.ref sl)) Q E s := by
  have htake : sizeOk (.seq ((items.toList.drop (sIx items.size 0 lo)).take (sIx items.size items.size hi - sIx items.size 0 lo)).toArray) := by
    show ((items.toList.drop (sIx items.size 0 lo)).take (sIx items.size items.size hi - sIx items.size 0 lo)).toArray.size ≤ sizeLine
    rw [List.size_toArray, List.length_take, List.length_drop, Array.length_toList]
    omega
  have hj : sIx items.size items.size hi ≤ items.size := sIx_le _ _ (Nat.le_refl _) hi
  obtain ⟨os, hos, hcs, hds⟩ := id hs
  have hTs : s.TypeIs (.ref sl) "slice" := ⟨os, hos, hcs⟩
  unfold getItem
  try with_reducible refine wpAny_holding ?_
  first | refine wpAny_bind (wpAny_pure ?_) | skip
  refine wpAny_bind (wpAny_sequenceKey ht.typeIs (by decide) ?_)
  refine wpAny_bind (wpAny_callSpecial?_slot (name := Str.ofString "__getitem__") ht.typeIs PyProof.Rows.slot_tuple_getitem
    (wpAny_call_entry PyProof.Rows.slot_tuple_getitem ht.typeIs entry_tuple_getitem ?_ (args_tuple_getitem _ _)))
  show wpAny _ _ (Builtin.Tuple.tupleItemsOf (.ref t) >>= _) _ _ s
  refine wpAny_bind (tupleItemsOf_ ht ?_)
  refine wpAny_bind (wpAny_typeOf hTs ?_)
  rw [if_pos (by decide)]
  refine wpAny_bind (sliceApplied_gen hs pl pu ?_)
  have hno : ¬ ((((sIx items.size 0 lo : Nat) : Int) == 0 && (1 : Int) == 1 && (sIx items.size items.size hi - sIx items.size 0 lo) == items.size) = true) := by
    intro q
    rw [Bool.and_eq_true, Bool.and_eq_true] at q
    have q1 : ((sIx items.size 0 lo : Nat) : Int) = 0 := eq_of_beq q.1.1
    have q2 : sIx items.size items.size hi - sIx items.size 0 lo = items.size := eq_of_beq q.2
    exact hw ⟨by omega, by omega⟩
  show wpAny _ _ (if (((sIx items.size 0 lo : Nat) : Int) == 0 && (1 : Int) == 1 && (sIx items.size items.size hi - sIx items.size 0 lo) == items.size) = true then _ else _) _ _ s
  rw [if_neg hno, pick_gen]
  first
    | exact wpAny_bind (m := Builtin.Tuple.tupleExact _) (wpAny_newObj_type (wpAny_pure ⟨_, rfl, wpAny_pure h⟩) htake)
    | exact wpAny_bind (m := Builtin.Tuple.tupleExact _) (wpAny_newObj_type (wpAny_bind (wpAny_pure (wpAny_pure ⟨_, rfl, wpAny_pure h⟩))) htake)
    | exact wpAny_bind (wpAny_bind (m := Builtin.Tuple.tupleExact _) (wpAny_newObj_type (wpAny_pure (wpAny_pure ⟨_, rfl, wpAny_pure h⟩)) htake))
    | exact wpAny_bind (wpAny_bind (m := Builtin.Tuple.tupleExact _) (wpAny_newObj_type (wpAny_pure ⟨_, rfl, wpAny_pure h⟩) htake))
end
end HT

namespace L2
open PySem PySem.Spec PyProof.Rows

/-! ### the parts of a slice -/
abbrev TO := St → Hp → (Option Int → Hp → Prop) → Prop
/-- a slice's part (left out, or an int) -/
def PO (X : Cx) (e : Option Expr) (t : TO) : Prop :=
  ∀ (pins : List (Addr × Obj)) (s : Shared) (σ : St) (H : Hp) (Q : Option Int → Hp → Prop), Inv X pins σ H s → t σ H Q →
    wpAny (model X.prog X.w) X.A (evalPart e X.env) (fun u s' => ∃ o H', Inv X pins σ H' s' ∧ IsPart u o ∧ Q o H') X.xe s
def tNoPart : TO := fun _ H Q => Q none H
def tPart (t : TE) : TO := fun σ H Q => t σ H fun x H1 => ∃ i, x = .int i ∧ Q (some i) H1

theorem intsAre_of {ns : List Int} : ∀ {us : List Value}, Vals (ns.map V.int) us → IntsAre us ns := by
  induction ns with
  | nil => intro us r; rw [List.map_nil] at r; cases r; exact .nil
  | cons n ns ih =>
    intro us r
    rw [List.map_cons] at r
    cases r with
    | cons r1 r2 =>
      obtain ⟨t, e⟩ := r1
      subst e
      exact .cons n t (ih r2)

section
variable {X : Cx} {e : Expr} {te : TE} {lo hi : Option Expr} {tl th : TO} {pos p2 : Pos}

theorem po_none : PO X none tNoPart := by
  intro pins s σ H Q I h
  rw [evalPart_none]
  exact wpAny_pure ⟨none, H, I, .none, h⟩
theorem po_some (h : PE X e te) : PO X (some e) (tPart te) := by
  intro pins s σ H Q I hw
  rw [evalPart_some]
  refine thn (h pins s σ H _ I hw) fun u s1 ⟨x, H1, I1, r1, q1⟩ => ?_
  obtain ⟨i, rfl, q⟩ := q1
  obtain ⟨t, rfl⟩ := r1
  exact ⟨some i, H1, I1, .int i t, q⟩

/-- what a slice of a value is, by values: the slice object stands at sl -/
def SlR (X : Cx) (r : V → Option Int → Option Int → Hp → VK → Prop) : Prop :=
  ∀ (pins : List (Addr × Obj)) (s : Shared) (σ : St) (H : Hp) (x : V) (v vl vu : Value) (lo hi : Option Int) (sl : Addr) (Q : VK), Inv X pins σ H s → RelV x v → s.heap.IsSliceOf sl vl vu .none → IsPart vl lo → IsPart vu hi → r x lo hi H Q →
    ∃ T id, typeLookup (.type T) "__getitem__" = pure (some (.builtin id)) ∧ s.TypeIs v T ∧ wpAny (model X.prog X.w) X.A (getItem v (.ref sl)) (EP X pins σ Q) X.xe s
theorem SlR.or {r r' : V → Option Int → Option Int → Hp → VK → Prop} (h : SlR X r) (h' : SlR X r') : SlR X (fun x lo hi H Q => r x lo hi H Q ∨ r' x lo hi H Q) := by
  intro pins s σ H x v vl vu lo hi sl Q I rx hs pl pu q
  rcases q with q | q
  · exact h pins s σ H x v vl vu lo hi sl Q I rx hs pl pu q
  · exact h' pins s σ H x v vl vu lo hi sl Q I rx hs pl pu q
def tSl (r : V → Option Int → Option Int → Hp → VK → Prop) (te : TE) (tl th : TO) : TE := fun σ H Q => te σ H fun x H1 => tl σ H1 fun l H2 => th σ H2 fun u H3 => r x l u H3 Q
/-- a[lo:hi], any a -/
theorem pe_slice {r : V → Option Int → Option Int → Hp → VK → Prop} (hr : SlR X r) (he : PE X e te) (hl : PO X lo tl) (hu : PO X hi th) : PE X (.Subscript e (.Slice lo hi none p2) pos) (tSl r te tl th) := by
  intro pins s σ H Q I h
  refine Subscript_ (thn (he pins s σ H _ I h) fun v s1 ⟨x, H1, I1, r1, q1⟩ => ?_)
  refine wpAny_Slice (thn (hl pins s1 σ H1 _ I1 q1) fun vl s2 ⟨l, H2, I2, pl, q2⟩ => thn (hu pins s2 σ H2 _ I2 q2) fun vu s3 ⟨u, H3, I3, pu, q3⟩ => ?_)
  rw [evalPart_none]
  refine wpAny_pure ?_
  have I4 : Inv X pins σ H3 { s3 with heap := s3.heap.push { cls := .type "slice", data := .fields #[vl, vu, .none] } } := I3.kept (t' := s3.toks) fun b ob q => Heap.get?_push_of_some _ q
  obtain ⟨T, id, hT, ht, hg⟩ := hr pins { s3 with heap := s3.heap.push { cls := .type "slice", data := .fields #[vl, vu, .none] } } σ H3 x v vl vu l u s3.heap.objs.size Q I4 r1 (Heap.IsSliceOf.new ..) pl pu q3
  show wpAny (model X.prog X.w) X.A (subscriptTail e (.Slice lo hi none p2) v (.ref s3.heap.objs.size)) (EP X pins σ Q) X.xe { s3 with heap := s3.heap.push { cls := .type "slice", data := .fields #[vl, vu, .none] } }
  exact tail_any (ops := [.ref s3.heap.objs.size, v]) ht hT hg (by with_unfolding_all rfl)

/-- the items of xs[lo:hi] -/
def cutV (xs : List V) (lo hi : Option Int) : List V := (xs.drop (HT.sIx xs.length 0 lo)).take (HT.sIx xs.length xs.length hi - HT.sIx xs.length 0 lo)
theorem cutV_length (xs : List V) (lo hi : Option Int) : (cutV xs lo hi).length ≤ xs.length := by
  unfold cutV
  rw [List.length_take, List.length_drop]
  omega
/-- t[lo:hi], not the whole of it (the whole would be t itself) -/
def rSlT (K : PySem.W.Frag) : V → Option Int → Option Int → Hp → VK → Prop := fun x lo hi H Q => ∃ a xs, x = .ref a ∧ SqT K H a xs ∧
  ¬ (HT.sIx xs.length 0 lo = 0 ∧ HT.sIx xs.length xs.length hi = xs.length) ∧ ∀ p, H p = none → Q (.ref p) (upd H p (.tup (cutV xs lo hi)))
theorem sl_tup : SlR X (rSlT X.K) := by
  intro pins s σ H x v vl vu lo hi sl Q I rx hs pl pu h
  obtain ⟨a, xs, rfl, hx, hw, q⟩ := h
  cases rx
  obtain ⟨its, r, ht, hz⟩ := I.tuple hx
  have hlen : its.toArray.size = xs.length := by rw [List.size_toArray]; exact r.length.symm
  refine ⟨"tuple", _, PyProof.Rows.slot_tuple_getitem.lookup, ht.typeIs, ?_⟩
  refine HT.getItem_tuple_cut ht hs pl pu (by rw [hlen]; exact hw) ?_ (by rw [hlen]; exact hz)
  rw [hlen]
  refine ⟨.ref s.heap.objs.size, _, I.laid (t' := s.toks) (o := .tup (cutV xs lo hi)) (fun b ob q => Heap.get?_push_of_some _ q) (Nat.le_refl _) ?_, rfl, q _ (I.hok.fresh (Nat.le_refl _))⟩
  exact ⟨Nat.le_trans (cutV_length xs lo hi) hz, _, (r.drop (HT.sIx xs.length 0 lo)).take (HT.sIx xs.length xs.length hi - HT.sIx xs.length 0 lo), IsTup.new _ _⟩

/-! ### t < u, t + u -/
def rLtT (K : PySem.W.Frag) : R2 := fun x y H Q => ∃ a b ns ms, x = .ref a ∧ y = .ref b ∧ SqT K H a (ns.map V.int) ∧ SqT K H b (ms.map V.int) ∧ Q (.bl (HT.lexLt ns ms)) H
theorem op_ltT (hu : X.A.units < cLine) : OpR X (compareOp .Lt) (rLtT X.K) := by
  intro pins s σ H x y v u Q I rx ry h
  obtain ⟨a, b, ns, ms, rfl, rfl, ha, hb, q⟩ := h
  cases rx
  cases ry
  obtain ⟨its, r1, p1, _⟩ := I.tuple ha
  obtain ⟨its2, r2, p2, _⟩ := I.tuple hb
  have i1 : IntsAre its.toArray.toList ns := intsAre_of r1
  have i2 : IntsAre its2.toArray.toList ms := intsAre_of r2
  exact HT.lt_tupInts p1 p2 i1 i2 hu ⟨.bl (HT.lexLt ns ms), H, I, rfl, q⟩
/-- t + u, t not empty: u empty gives t itself -/
def rCatT (K : PySem.W.Frag) : R2 := fun x y H Q => ∃ a b xs ys, x = .ref a ∧ y = .ref b ∧ SqT K H a xs ∧ SqT K H b ys ∧ xs ≠ [] ∧ xs.length + ys.length ≤ sizeLine ∧
  (ys = [] → Q (.ref a) H) ∧ (ys ≠ [] → ∀ p, H p = none → Q (.ref p) (upd H p (.tup (xs ++ ys))))
end
end L2

namespace L2
open PySem PySem.Spec PyProof.Rows

/-! ### places -/
/-- the place that an index of any sign means -/
def ixN (n : Nat) (i : Int) : Option Nat := if 0 ≤ i then (if i < n then some i.toNat else none) else if -(n : Int) ≤ i then some (i + n).toNat else none
def atI {α : Type} (xs : List α) (i : Int) : Option α := (ixN xs.length i).bind fun j => xs[j]?
theorem ixN_seq {n : Nat} {i : Int} {j : Nat} (h : ixN n i = some j) : seqIndex? i n = some j ∧ j < n ∧ -(n : Int) ≤ i ∧ i < n := by
  unfold ixN at h
  by_cases h0 : 0 ≤ i
  · rw [if_pos h0] at h
    by_cases h1 : i < n
    · rw [if_pos h1] at h
      have e : i.toNat = j := Option.some.inj h
      exact ⟨by rw [seqIndex_of h0 h1, e], by omega, by omega, h1⟩
    · rw [if_neg h1] at h; cases h
  · rw [if_neg h0] at h
    by_cases h1 : -(n : Int) ≤ i
    · rw [if_pos h1] at h
      have e : (i + n).toNat = j := Option.some.inj h
      exact ⟨by rw [seqIndex_neg (by omega) h1, e], by omega, h1, by omega⟩
    · rw [if_neg h1] at h; cases h
theorem atI_get {α : Type} {xs : List α} {i : Int} {v : α} (h : atI xs i = some v) : ∃ j, seqIndex? i xs.length = some j ∧ xs[j]? = some v ∧ j < xs.length ∧ -(xs.length : Int) ≤ i ∧ i < xs.length := by
  unfold atI at h
  cases e : ixN xs.length i with
  | none => rw [e] at h; cases h
  | some j =>
    rw [e] at h
    obtain ⟨h1, h2, h3, h4⟩ := ixN_seq e
    exact ⟨j, h1, h, h2, h3, h4⟩
theorem atI_nat {α : Type} {xs : List α} {j : Nat} {v : α} (h : xs[j]? = some v) : atI xs (j : Int) = some v := by
  have hj : j < xs.length := (List.getElem?_eq_some_iff.mp h).1
  have e : ixN xs.length (j : Int) = some j := by
    unfold ixN
    rw [if_pos (by omega), if_pos (by omega)]; simp
  unfold atI; rw [e]; exact h
theorem atI_last {α : Type} (xs : List α) (v : α) : atI (xs ++ [v]) (-1) = some v := by
  have hl : (xs ++ [v]).length = xs.length + 1 := by simp
  have e : ixN (xs ++ [v]).length (-1) = some xs.length := by
    unfold ixN
    rw [hl, if_neg (by decide), if_pos (by omega)]
    congr 1
    omega
  unfold atI
  rw [e]
  show (xs ++ [v])[xs.length]? = some v
  simp

/-! ### what may be subscripted -/
/-- what stands as an index of a plain subscript -/
def PlainIx (b : Expr) : Prop := ∀ o i, subscripted b false o i = operate [o, i] (getItem o i)
/-- a subscript by values -/
def IxR (X : Cx) (r : R2) : Prop :=
  ∀ (value slice : Expr) (pins : List (Addr × Obj)) (s : Shared) (σ : St) (H : Hp) (x y : V) (v u : Value) (Q : VK), Inv X pins σ H s → RelV x v → RelV y u → r x y H Q →
    subscripted slice false v u = operate [v, u] (getItem v u) → wpAny (model X.prog X.w) X.A (subscriptTail value slice v u) (EP X pins σ Q) X.xe s
/-- a call of a builtin's method by values: the receiver, the arguments -/
def MtR (X : Cx) (id : String) (r : V → List V → Hp → VK → Prop) : Prop :=
  ∀ (pins : List (Addr × Obj)) (s : Shared) (σ : St) (H : Hp) (x : V) (xs : List V) (v : Value) (us : List Value) (Q : VK), Inv X pins σ H s → RelV x v → Vals xs us → r x xs H Q →
    wpAny (model X.prog X.w) X.A (call (.builtin id) (v :: us)) (EP X pins σ Q) X.xe s
section
variable {X : Cx} {a b : Expr} {ta tb : TE} {pos : Pos}
theorem IxR.or {r r' : R2} (h : IxR X r) (h' : IxR X r') : IxR X (fun x y H Q => r x y H Q ∨ r' x y H Q) := by
  intro value slice pins s σ H x y v u Q I rx ry q hs
  rcases q with q | q
  · exact h value slice pins s σ H x y v u Q I rx ry q hs
  · exact h' value slice pins s σ H x y v u Q I rx ry q hs
theorem MtR.or {id : String} {r r' : V → List V → Hp → VK → Prop} (h : MtR X id r) (h' : MtR X id r') : MtR X id (fun x xs H Q => r x xs H Q ∨ r' x xs H Q) := by
  intro pins s σ H x xs v us Q I rx rs q
  rcases q with q | q
  · exact h pins s σ H x xs v us Q I rx rs q
  · exact h' pins s σ H x xs v us Q I rx rs q
/-- a[b] -/
theorem pe_ix {r : R2} (hr : IxR X r) (ha : PE X a ta) (hb : PE X b tb) (hs : PlainIx b) : PE X (.Subscript a b pos) (tOp r ta tb) := by
  intro pins s σ H Q I h
  exact Subscript_ (binT ha hb I h fun v u s2 x y H2 I2 rx ry q => hr a b pins s2 σ H2 x y v u Q I2 rx ry q (hs _ _))

def rIxL (K : PySem.W.Frag) : R2 := fun x y H Q => ∃ p xs i v, x = .ref p ∧ y = .int i ∧ SqL K H p xs ∧ atI xs i = some v ∧ Q v H
def rIxT (K : PySem.W.Frag) : R2 := fun x y H Q => ∃ p xs i v, x = .ref p ∧ y = .int i ∧ SqT K H p xs ∧ atI xs i = some v ∧ Q v H
def rIxS : R2 := fun x y H Q => ∃ z i c, x = .str z ∧ y = .int i ∧ z.length ≤ sizeLine ∧ atI z.cps.toList i = some c ∧ Q (.str ⟨#[c]⟩) H
theorem ix_list : IxR X (rIxL X.K) := by
  intro value slice pins s σ H x y v u Q I rx ry h hs
  obtain ⟨p, xs, i, z, rfl, rfl, hq, he, q⟩ := h
  cases rx
  obtain ⟨t, rfl⟩ := ry
  obtain ⟨its, r, pl, hz⟩ := I.list hq
  obtain ⟨j, h1, h2, h3, h4, h5⟩ := atI_get he
  obtain ⟨w, ew, rw'⟩ := r.get h2
  have hl := r.length
  have hn := line63
  have fin : EP X pins σ Q w s := ⟨z, H, I, rw', q⟩
  by_cases h0 : 0 ≤ i
  · have hj : i.toNat = j := by
      rw [seqIndex_of h0 h5] at h1
      exact Option.some.inj h1
    exact item_listR pl.isList h0 (by omega) (by rw [hj]; simpa using ew) fin hs
  · have hj : (i + (its.toArray.size : Int)).toNat = j := by
      rw [seqIndex_neg (by omega) h4] at h1
      rw [List.size_toArray, ← hl]
      exact Option.some.inj h1
    exact subscriptTail_builtinR (x := w) pl.isList.typeIs slot_list_getitem.lookup
      (wpAny_getItem_list_neg (Q := fun r s' => r = w ∧ EP X pins σ Q r s') pl.isList (by omega) (by rw [List.size_toArray] <;> omega) (by omega) (by rw [hj]; simpa using ew) ⟨rfl, fin⟩) hs
theorem ix_tup : IxR X (rIxT X.K) := by
  intro value slice pins s σ H x y v u Q I rx ry h hs
  obtain ⟨p, xs, i, z, rfl, rfl, hq, he, q⟩ := h
  cases rx
  obtain ⟨t, rfl⟩ := ry
  obtain ⟨its, r, pl, hz⟩ := I.tuple hq
  obtain ⟨j, h1, h2, h3, h4, h5⟩ := atI_get he
  obtain ⟨w, ew, rw'⟩ := r.get h2
  have hl := r.length
  have hn := line63
  have fin : EP X pins σ Q w s := ⟨z, H, I, rw', q⟩
  exact subscriptTail_builtinR (x := w) pl.typeIs slot_tuple_getitem.lookup
    (getItem_tuple (j := j) (Q := fun r s' => r = w ∧ EP X pins σ Q r s') pl (by omega) (by omega) (by rw [List.size_toArray, ← hl]; exact h1) (by simpa using ew) ⟨rfl, fin⟩) hs
/-- list, tuple or str -/
def rIx (K : PySem.W.Frag) : R2 := fun x y H Q => rIxL K x y H Q ∨ rIxT K x y H Q ∨ rIxS x y H Q
/-! ### xs[i] = v, any sign -/
/-- the list's object behind a store -/
theorem mapSeq_set (its : List Value) (n j : Nat) (u : Value) : Obj.mapSeq (·.setIfInBounds j u) { cls := .type "list", data := .seq its.toArray n } = { cls := .type "list", data := .seq (its.set j u).toArray n } := by
  simp [Obj.mapSeq]
theorem Inv.lst {pins : List (Addr × Obj)} {σ : St} {H : Hp} {s : Shared} {p : Addr} {xs : List V} (I : Inv X pins σ H s) (h : H p = some (.lst xs)) :
    ∃ (its : List Value) (n : Nat), Vals xs its ∧ s.heap.get? p = some { cls := .type "list", data := .seq its.toArray n } ∧ xs.length ≤ sizeLine := by
  obtain ⟨z, its, n, r, e⟩ := I.hok p _ h
  exact ⟨its, n, r, e, z⟩
/-- the list at p is written by an update of its object -/
theorem Inv.lstUpd {pins : List (Addr × Obj)} {σ : St} {H : Hp} {s : Shared} {p : Addr} {xs ys : List V} {its its' : List Value} {n n' : Nat} {f : Obj → Obj} (I : Inv X pins σ H s) (h : H p = some (.lst xs))
    (ho : s.heap.get? p = some { cls := .type "list", data := .seq its.toArray n }) (hf : f { cls := .type "list", data := .seq its.toArray n } = { cls := .type "list", data := .seq its'.toArray n' }) (r : Vals ys its') (hz : ys.length ≤ sizeLine) (t : Nat) :
    Inv X pins σ (upd H p (.lst ys)) { s with heap := s.heap.update p f, toks := t } := by
  have e : (s.heap.update p f).get? p = some { cls := .type "list", data := .seq its'.toArray n' } := by
    rw [Heap.get?_update_self f ho (by rw [hf] <;> rfl), hf]
  refine I.write (x := p) (e := p) (by rw [h]; trivial) (.inl rfl) (fun b u hb q => (Heap.get?_update_other _ _ (Ne.symm hb)).trans q) ⟨_, e⟩ ?_
  exact ⟨hz, its', n', r, e⟩
def rSetL : V → V → V → Hp → (Hp → Prop) → Prop := fun o i v H Q => ∃ p xs k j, o = .ref p ∧ i = .int k ∧ H p = some (.lst xs) ∧ ixN xs.length k = some j ∧ Q (upd H p (.lst (xs.set j v)))
theorem set_list : PSet X rSetL := by
  intro pins s σ H o i v ov iv u Q I ro ri rv h
  obtain ⟨p, xs, k, j, rfl, rfl, hp, hj, q⟩ := h
  cases ro
  obtain ⟨t, rfl⟩ := ri
  obtain ⟨its, n, r, ho, hz⟩ := I.lst hp
  obtain ⟨h1, h2, h3, h4⟩ := ixN_seq hj
  have hl := r.length
  have hn := line63
  have I' : Inv X pins σ (upd H p (.lst (xs.set j v))) { s with heap := s.heap.update p (Obj.mapSeq (·.setIfInBounds j u)) } :=
    I.lstUpd hp ho (mapSeq_set its n j u) (r.set rv j) (by rw [List.length_set]; exact hz) s.toks
  by_cases h0 : 0 ≤ k
  · have hk : k.toNat = j := by
      rw [seqIndex_of h0 h4] at h1
      exact Option.some.inj h1
    exact PySem.W.ki_setAt ho h0 (by omega) (by rw [List.size_toArray, ← hl]; exact h4) (by rw [hk]; exact ⟨_, I', q⟩)
  · have hk : (k + (its.toArray.size : Int)).toNat = j := by
      rw [seqIndex_neg (by omega) h3] at h1
      rw [List.size_toArray, ← hl]
      exact Option.some.inj h1
    exact PySem.W.ki_setBack ho (by omega) (by rw [List.size_toArray, ← hl]; exact h3) (by omega) (by rw [hk]; exact ⟨_, I', q⟩)

/-! ### slices -/
theorem slice_bounds (lo hi : Option Int) (n : Nat) : (sliceBounds lo hi none n).1 = ((HT.sIx n 0 lo : Nat) : Int) ∧ (sliceBounds lo hi none n).2.1 = ((HT.sIx n n hi : Nat) : Int) ∧ (sliceBounds lo hi none n).2.2 = 1 := by
  refine ⟨?_, ?_, rfl⟩
  · cases lo with
    | none => simp [sliceBounds, HT.sIx]
    | some i =>
      simp only [sliceBounds, HT.sIx, Option.getD_none, show (1 : Int) > 0 by decide, if_true]
      by_cases h : i < 0
      · simp only [h, if_true] <;> omega
      · simp only [h, if_false] <;> omega
  · cases hi with
    | none => simp [sliceBounds, HT.sIx]
    | some i =>
      simp only [sliceBounds, HT.sIx, Option.getD_none, show (1 : Int) > 0 by decide, if_true]
      by_cases h : i < 0
      · simp only [h, if_true] <;> omega
      · simp only [h, if_false] <;> omega
theorem slicePick_cut (its : List Value) (lo hi : Option Int) : slicePick its.toArray lo hi none = ((its.drop (HT.sIx its.length 0 lo)).take (HT.sIx its.length its.length hi - HT.sIx its.length 0 lo)).toArray := by
  obtain ⟨h1, h2, h3⟩ := slice_bounds lo hi its.toArray.size
  unfold slicePick
  rw [h1, h2, h3]
  simp only [sliceRange_one, pick_run, List.size_toArray] <;> rfl
/-- xs[lo:hi] of a list: a new list -/
def rSlL (K : PySem.W.Frag) : V → Option Int → Option Int → Hp → VK → Prop := fun x lo hi H Q => ∃ a xs, x = .ref a ∧ SqL K H a xs ∧ ∀ p, H p = none → Q (.ref p) (upd H p (.lst (cutV xs lo hi)))
theorem sl_list : SlR X (rSlL X.K) := by
  intro pins s σ H x v vl vu lo hi sl Q I rx hs pl pu h
  obtain ⟨a, xs, rfl, hx, q⟩ := h
  cases rx
  obtain ⟨its, r, ht, hz⟩ := I.list hx
  have hlen := r.length
  refine ⟨"list", _, slot_list_getitem.lookup, ht.isList.typeIs, ?_⟩
  refine wpAny_getItem_list_slice ht.isList hs pl pu .none (by simp) ?_ (by rw [List.size_toArray] <;> omega)
  rw [slicePick_cut, ← hlen]
  refine ⟨.ref s.heap.objs.size, _, I.laid (t' := s.toks) (o := .lst (cutV xs lo hi)) (fun b ob q => Heap.get?_push_of_some _ q) (Nat.le_refl _) ?_, rfl, q _ (I.hok.fresh (Nat.le_refl _))⟩
  exact ⟨Nat.le_trans (cutV_length xs lo hi) hz, _, 0, (r.drop (HT.sIx xs.length 0 lo)).take (HT.sIx xs.length xs.length hi - HT.sIx xs.length 0 lo), Heap.get?_push_size _ rfl⟩

/-! ### in, not in: flat items -/
def flatV : V → Bool
  | .non => true
  | .bl _ => true
  | .int _ => true
  | .str _ => true
  | _ => false
/-- == of flat values -/
def eqV : V → V → Bool
  | .non, .non => true
  | .bl a, .bl b => a == b
  | .bl a, .int b => (if a then 1 else 0) == b
  | .int a, .bl b => a == (if b then 1 else 0)
  | .int a, .int b => a == b
  | .str a, .str b => a == b
  | _, _ => false
/-- the items' answers, read off the values (a value's own answer does not lean on its token) -/
def eqU (x : V) (u : Value) : Bool := match u with
  | .none => eqV .non x
  | .bool b => eqV (.bl b) x
  | .int i _ => eqV (.int i) x
  | .str z _ => eqV (.str z) x
  | _ => false
def inV (x : V) (xs : List V) : Bool := xs.any fun y => eqV y x
/-- x in a list or tuple of flat items -/
def rIn (K : PySem.W.Frag) (neg : Bool) : R2 := fun x y H Q => ∃ p xs, y = .ref p ∧ (SqL K H p xs ∨ SqT K H p xs) ∧ flatV x = true ∧ xs.all flatV = true ∧ Q (.bl (if neg then !inV x xs else inV x xs)) H
/-! ### len, list(x), tuple(x) of any list or tuple that is read -/
theorem call_len_seq : CallR X (.builtin "len") (fun xs H Q => ∃ p ys, xs = [.ref p] ∧ (SqL X.K H p ys ∨ SqT X.K H p ys) ∧ Q (.int ys.length) H) := by
  intro pins s σ H xs us Q I r h
  obtain ⟨p, ys, rfl, hq, q⟩ := h
  obtain ⟨u, rfl, rx⟩ := vals1 r
  cases rx
  have hn := line63
  rcases hq with hq | hq
  · obtain ⟨its, r', pl, hz⟩ := I.list hq
    have hlen := r'.length
    exact Calls.call_len_list pl.isList (by simp only [List.size_toArray] <;> omega) ⟨.int ys.length, H, I.tok _, ⟨s.toks + 1, by rw [List.size_toArray, hlen]⟩, q⟩
  · obtain ⟨its, r', pl, hz⟩ := I.tuple hq
    have hlen := r'.length
    exact len_tuple pl (by simp only [List.size_toArray] <;> omega) ⟨.int ys.length, H, I.tok _, ⟨s.toks + 1, by rw [List.size_toArray, hlen]⟩, q⟩
theorem CallR.or {f : Value} {r r' : List V → Hp → VK → Prop} (h : CallR X f r) (h' : CallR X f r') : CallR X f (fun xs H Q => r xs H Q ∨ r' xs H Q) := by
  intro pins s σ H xs us Q I rs q
  rcases q with q | q
  · exact h pins s σ H xs us Q I rs q
  · exact h' pins s σ H xs us Q I rs q
theorem call_list_of : CallR X (.type "list") (fun xs H Q => ∃ p ys, xs = [.ref p] ∧ (SqL X.K H p ys ∨ SqT X.K H p ys) ∧ ∀ l, H l = none → Q (.ref l) (upd H l (.lst ys))) := by
  intro pins s σ H xs us Q I r h
  obtain ⟨p, ys, rfl, hq, q⟩ := h
  obtain ⟨u, rfl, rx⟩ := vals1 r
  cases rx
  have fin : ∀ (its : List Value), Vals ys its → ys.length ≤ sizeLine → ∀ (h' : Heap) (c' : Nat), (∀ b o', s.heap.get? b = some o' → h'.get? b = some o') →
      h'.get? s.heap.objs.size = some { cls := .type "list", dict := none, data := .seq its.toArray c', slots := #[] } → EP X pins σ Q (.ref s.heap.objs.size) { s with heap := h' } := fun its r' hz h' c' kp e =>
    ⟨.ref s.heap.objs.size, _, I.laid (t' := s.toks) kp (Nat.le_refl _) (show ObjOk X.prog X.w _ h' _ (.lst ys) from ⟨hz, its, c', r', e⟩), rfl, q _ (I.hok.fresh (Nat.le_refl _))⟩
  rcases hq with hq | hq
  · obtain ⟨its, r', pl, hz⟩ := I.list hq
    have hlen := r'.length
    obtain ⟨o, ho, hc, n, hd⟩ := pl.isList
    exact call_list_seq p (.inl rfl) ho hc hd (fun h' c' kp e => fin its r' hz h' c' kp e) (by simp only [List.size_toArray] <;> omega)
  · obtain ⟨its, r', pl, hz⟩ := I.tuple hq
    have hlen := r'.length
    obtain ⟨o, ho, hc, n, hd⟩ := pl
    exact call_list_seq p (.inr rfl) ho hc hd (fun h' c' kp e => fin its r' hz h' c' kp e) (by simp only [List.size_toArray] <;> omega)
theorem call_tuple_of : CallR X (.type "tuple") (fun xs H Q => ∃ p ys, xs = [.ref p] ∧ ((SqL X.K H p ys ∧ ∀ l, H l = none → Q (.ref l) (upd H l (.tup ys))) ∨ (SqT X.K H p ys ∧ Q (.ref p) H))) := by
  intro pins s σ H xs us Q I r h
  obtain ⟨p, ys, rfl, h⟩ := h
  obtain ⟨u, rfl, rx⟩ := vals1 r
  cases rx
  rcases h with ⟨hq, q⟩ | ⟨hq, q⟩
  · obtain ⟨its, r', pl, hz⟩ := I.list hq
    have hlen := r'.length
    refine call_tuple_list pl.isList (fun h' kp => ?_) (by simp only [List.size_toArray] <;> omega)
    have I1 : Inv X pins σ H { s with heap := h' } := I.kept (t' := s.toks) kp
    have I2 : Inv X pins σ (upd H h'.objs.size (.tup ys)) { s with heap := h'.push { cls := .type "tuple", data := .seq its.toArray } } :=
      I1.laid (t' := s.toks) (fun b o e => Heap.get?_push_of_some _ e) (Nat.le_refl _) (show ObjOk X.prog X.w _ _ _ (.tup ys) from ⟨hz, its, r', IsTup.new _ _⟩)
    exact ⟨.ref h'.objs.size, _, I2, rfl, q _ (I1.hok.fresh (Nat.le_refl _))⟩
  · obtain ⟨its, r', pl, hz⟩ := I.tuple hq
    exact call_tuple_same pl ⟨.ref p, H, I, rfl, q⟩

/-! ### the call of a builtin's method: o.m(..) -/
/-- the value is of that builtin type -/
def tyV (K : PySem.W.Frag) (T : String) (x : V) (H : Hp) : Prop := match x with
  | .str _ => T = "str"
  | .int _ => T = "int"
  | .ref p => (T = "list" ∧ ∃ xs, SqL K H p xs) ∨ (T = "tuple" ∧ ∃ o, K.lookup p = some o ∧ o.cls = .type "tuple" ∧ o.dict = none) ∨
      (T = "dict" ∧ ((∃ kvs, H p = some (.dK kvs)) ∨ ∃ kvs, H p = some (.dT kvs))) ∨ (T = "set" ∧ ∃ S n, H p = some (.set S n))
  | _ => False
theorem tyV_is {pins : List (Addr × Obj)} {σ : St} {H : Hp} {s : Shared} {T : String} {x : V} {v : Value} (I : Inv X pins σ H s) (r : RelV x v) (ty : tyV X.K T x H) :
    s.TypeIs v T ∧ ∀ a, v = .ref a → ∃ ob, s.heap.get? a = some ob ∧ ob.dict = none := by
  cases x with
  | str z =>
    obtain ⟨t, rfl⟩ := r
    cases (show T = "str" from ty)
    exact ⟨typeIs_str s z t, fun _ e => nomatch e⟩
  | int i =>
    obtain ⟨t, rfl⟩ := r
    cases (show T = "int" from ty)
    exact ⟨typeIs_int s i t, fun _ e => nomatch e⟩
  | ref p =>
    cases r
    rcases ty with ⟨rfl, xs, hq⟩ | ⟨rfl, o, hk, hc, hd⟩ | ⟨rfl, hk⟩ | ⟨rfl, S, n, hk⟩
    · obtain ⟨its, _, pl, _⟩ := I.list hq
      refine ⟨pl.isList.typeIs, fun a e => ?_⟩
      cases e
      obtain ⟨o, n, e, c, hd, _⟩ := pl
      exact ⟨o, e, hd⟩
    · refine ⟨⟨o, I.kIn p o hk, hc⟩, fun a e => ?_⟩
      cases e
      exact ⟨o, I.kIn _ o hk, hd⟩
    · have z : ∃ o, s.heap.get? p = some o ∧ o.ExactDict := by
        rcases hk with ⟨kvs, hk⟩ | ⟨kvs, hk⟩
        · obtain ⟨_, _, _, _, o, _, _, e, ex, _⟩ := I.hok p _ hk
          exact ⟨o, e, ex⟩
        · obtain ⟨_, _, _, _, o, _, _, e, ex, _⟩ := I.hok p _ hk
          exact ⟨o, e, ex⟩
      obtain ⟨o, e, ex⟩ := z
      refine ⟨⟨o, e, ex.1⟩, fun a e2 => ?_⟩
      cases e2
      exact ⟨o, e, ex.2.1⟩
    · obtain ⟨o, _, _, _, e, ex, _⟩ := I.hok p _ hk
      refine ⟨⟨o, e, ex.1⟩, fun a e2 => ?_⟩
      cases e2
      exact ⟨o, e, ex.2.1⟩
  | _ => exact False.elim ty
def tBM0 (K : PySem.W.Frag) (T : String) (r : V → List V → Hp → VK → Prop) (to : TE) : TE := fun σ H Q => to σ H fun x H1 => tyV K T x H1 ∧ r x [] H1 Q
def tBM (K : PySem.W.Frag) (T : String) (r : V → List V → Hp → VK → Prop) (to : TE) (t : TA) : TE := fun σ H Q => to σ H fun x H1 => tyV K T x H1 ∧ t σ H1 fun xs H2 => r x xs H2 Q
variable {o e : Expr} {es : List Expr} {to : TE} {t : TA} {name : Str} {apos cpos : Pos} {T id : String} {r : V → List V → Hp → VK → Prop}
theorem pe_bm0 (pa : PlainAttrs T) (slot : Slot T name id) (hty : typeOf (.builtin id) = pure (.type "method_descriptor")) (hm : MtR X id r) (ho : PE X o to)
    (hbase : attributeBase o name X.env (eval o X.env) = eval o X.env := by rfl) (hline : (apos.endLine == cpos.line) = true := by rfl) : PE X (.Call (.Attribute o name apos) [] [] cpos) (tBM0 X.K T r to) := by
  intro pins s σ H Q I h
  refine wpAny_Call_method0_late hbase hline (thn (ho pins s σ H _ I h) fun v s1 ⟨x, H1, I1, r1, ty, q1⟩ => ?_)
  obtain ⟨h1, h2⟩ := tyV_is I1 r1 ty
  exact ⟨T, id, pa, slot, hty, h1, h2, Calls.callWith_builtin rfl (PySem.evalArgs_none (hm pins s1 σ H1 x [] v [] Q I1 r1 .nil q1))⟩
theorem pe_bm (pa : PlainAttrs T) (slot : Slot T name id) (hty : typeOf (.builtin id) = pure (.type "method_descriptor")) (hm : MtR X id r) (ho : PE X o to) (ha : PA X (e :: es) t)
    (hbase : attributeBase o name X.env (eval o X.env) = eval o X.env := by rfl)
    (hfew : ((backTo cpos (starEach (e :: es) X.env)).all (fun x => !x.1) && (backToKw cpos (keywordEach [] X.env)).all (fun x => x.1.isSome)
      && decide ((e :: es).length + ([] : List Keyword).length + (if ([] : List Keyword).isEmpty then 0 else 1) < 30)) = true := by rfl)
    (hline : (apos.endLine == cpos.line) = true := by rfl) (hs : starEach (e :: es) X.env = (false, eval e X.env) :: starEach es X.env := by rfl) (hplain : (backTo cpos (starEach es X.env)).any (·.1) = false := by rfl) :
    PE X (.Call (.Attribute o name apos) (e :: es) [] cpos) (tBM X.K T r to t) := by
  intro pins s σ H Q I h
  refine wpAny_Call_method_late hbase hfew hline rfl (thn (ho pins s σ H _ I h) fun v s1 ⟨x, H1, I1, r1, ty, q1⟩ => ?_)
  obtain ⟨h1, h2⟩ := tyV_is I1 r1 ty
  refine ⟨T, id, pa, slot, hty, h1, h2, ?_⟩
  have hA := ha cpos pins s1 σ H1 _ I1 q1
  rw [hs] at hA ⊢
  refine Calls.callWith_builtin (by show (false || (backTo cpos (starEach es X.env)).any (·.1)) = false; rw [hplain] <;> rfl) (Calls.evalArgs_plain ?_)
  exact thn hA fun us s2 ⟨vs, H2, I2, r2, q2⟩ => hm pins s2 σ H2 x vs v us Q I2 r1 r2 q2
/- xs.append(e), list.index on a module's tuple .. are MtR facts of 06m -/
end
end L2

namespace L2
open PySem PySem.Spec PyProof.Rows

def MtM (X : Cx) (id : String) (r : V → List V → Hp → VK → Prop) : Prop :=
  ∀ (pins : List (Addr × Obj)) (s : Shared) (σ : St) (H : Hp) (x : V) (xs : List V) (v : Value) (us : List Value) (Q : VK), Inv X pins σ H s → RelV x v → Vals xs us → r x xs H Q →
    wpAny (model X.prog X.w) X.A (call (.builtin id) (v :: us)) (EP X pins σ Q) X.xe s

/-! ### lists of values -/
theorem Vals.one : ∀ {x : V} {us : List Value}, Vals [x] us → ∃ u, us = [u] ∧ RelV x u
  | _, _, .cons r .nil => ⟨_, rfl, r⟩
theorem Vals.two : ∀ {x y : V} {us : List Value}, Vals [x, y] us → ∃ u v, us = [u, v] ∧ RelV x u ∧ RelV y v
  | _, _, _, .cons r (.cons q .nil) => ⟨_, _, rfl, r, q⟩
theorem Vals.zero : ∀ {us : List Value}, Vals [] us → us = []
  | _, .nil => rfl
theorem Vals.dropLast {xs : List V} {us : List Value} (h : Vals xs us) : Vals xs.dropLast us.dropLast := by
  induction h with
  | nil => exact .nil
  | cons r t ih =>
    cases t with
    | nil => exact .nil
    | cons q t' => exact .cons r ih
theorem Vals.eraseIdx : ∀ {xs : List V} {us : List Value} (i : Nat), Vals xs us → Vals (xs.eraseIdx i) (us.eraseIdx i)
  | _, _, _, .nil => .nil
  | _, _, 0, .cons _ t => t
  | _, _, i + 1, .cons r t => .cons r (Vals.eraseIdx i t)
theorem Vals.reverse {xs : List V} {us : List Value} (h : Vals xs us) : Vals xs.reverse us.reverse := by
  induction h with
  | nil => exact .nil
  | cons r t ih => rw [List.reverse_cons, List.reverse_cons]; exact Vals.append ih (.cons r .nil)
section
variable {X : Cx} {pins : List (Addr × Obj)} {σ : St} {H : Hp} {s : Shared} {l b : Addr} {xs ys zs : List V}

/-! ### the two steps: a tracked list is rewritten, a new list is laid -/
theorem Inv.lset {its its' : List Value} {n : Nat} {f : Array Value → Array Value} {t' : Nat} (I : Inv X pins σ H s) (hH : H l = some (.lst xs))
    (e : s.heap.get? l = some { cls := .type "list", data := .seq its.toArray n }) (hf : f its.toArray = its'.toArray) (hv : Vals ys its') (hz : ys.length ≤ sizeLine) :
    Inv X pins σ (upd H l (.lst ys)) { s with heap := s.heap.update l (Obj.mapSeq f), toks := t' } := by
  have q := PySem.IsL.update e f
  rw [hf] at q
  refine I.write (x := l) (e := l) (by rw [hH]; exact trivial) (.inl rfl) (fun b' u hb hu => (Heap.get?_update_other s.heap (Obj.mapSeq f) (Ne.symm hb)).trans hu) ⟨_, q⟩ ?_
  exact ⟨hz, its', _, hv, q⟩
theorem Inv.lnew {its : List Value} {t' : Nat} (I : Inv X pins σ H s) (hv : Vals ys its) (hz : ys.length ≤ sizeLine) :
    Inv X pins σ (upd H s.heap.objs.size (.lst ys)) { s with heap := s.heap.push { cls := .type "list", data := .seq its.toArray }, toks := t' } :=
  I.laid (fun _ _ q => Heap.get?_push_of_some _ q) (Nat.le_refl _) ⟨hz, its, 0, hv, Heap.get?_push_size _ rfl⟩
theorem Inv.fresh (I : Inv X pins σ H s) : H s.heap.objs.size = none := I.hok.fresh (Nat.le_refl _)
theorem Inv.lstM (I : Inv X pins σ H s) (hH : H l = some (.lst xs)) : xs.length ≤ sizeLine ∧ ∃ (its : List Value) (n : Nat), Vals xs its ∧ xs.length = its.length ∧ s.heap.get? l = some { cls := .type "list", data := .seq its.toArray n } := by
  obtain ⟨z, its, n, r, e⟩ := I.hok l _ hH
  exact ⟨z, its, n, r, r.length, e⟩

end

section
variable {X : Cx}

/-! ### methods -/
def rAppend : V → List V → Hp → VK → Prop := fun x vs H Q => ∃ l xs y, x = .ref l ∧ vs = [y] ∧ H l = some (.lst xs) ∧ xs.length < sizeLine ∧ Q .non (upd H l (.lst (xs ++ [y])))
theorem mt_append : MtM X "list.append" rAppend := by
  intro pins s σ H x vs v us Q I rx rv h
  obtain ⟨l, xs, y, rfl, rfl, hH, hz, q⟩ := h
  cases rx
  obtain ⟨u, rfl, ru⟩ := rv.one
  obtain ⟨z, its, n, r, hl, e⟩ := I.lstM hH
  refine call_meets F.slot_list_append ⟨_, e, rfl⟩ F.entry_list_append (F.args_list_append_2 _ _) (PySem.list_append l its.toArray n u (by rw [List.size_toArray]; omega)) ⟨e, ?_⟩
  refine ⟨.non, _, I.lset (its' := its ++ [u]) hH e (by simp) (r.append (.cons ru .nil)) ?_, rfl, q⟩
  rw [List.length_append, List.length_singleton]
  omega

def rExtend : V → List V → Hp → VK → Prop := fun x vs H Q => ∃ l b xs zs, x = .ref l ∧ vs = [.ref b] ∧ H l = some (.lst xs) ∧ H b = some (.lst zs) ∧ xs.length + zs.length ≤ sizeLine ∧ Q .non (upd H l (.lst (xs ++ zs)))
def rPop : V → List V → Hp → VK → Prop := fun x vs H Q => ∃ l xs y, x = .ref l ∧ vs = [] ∧ H l = some (.lst xs) ∧ xs[xs.length - 1]? = some y ∧ Q y (upd H l (.lst xs.dropLast))
def rPopAt : V → List V → Hp → VK → Prop := fun x vs H Q => ∃ l xs i k y, x = .ref l ∧ vs = [.int i] ∧ H l = some (.lst xs) ∧ -(2 ^ 63) ≤ i ∧ i < 2 ^ 63 ∧ seqIndex? i xs.length = some k ∧ xs[k]? = some y ∧ Q y (upd H l (.lst (xs.eraseIdx k)))
def rReverse : V → List V → Hp → VK → Prop := fun x vs H Q => ∃ l xs, x = .ref l ∧ vs = [] ∧ H l = some (.lst xs) ∧ Q .non (upd H l (.lst xs.reverse))
def rClear : V → List V → Hp → VK → Prop := fun x vs H Q => ∃ l xs, x = .ref l ∧ vs = [] ∧ H l = some (.lst xs) ∧ Q .non (upd H l (.lst []))
/-! ### list + list, list += list, list * int -/
def rCat : R2 := fun x y H Q => ∃ l b xs zs, x = .ref l ∧ y = .ref b ∧ H l = some (.lst xs) ∧ H b = some (.lst zs) ∧ xs.length + zs.length ≤ sizeLine ∧ ∀ p, H p = none → Q (.ref p) (upd H p (.lst (xs ++ zs)))
theorem op_cat : OpR X (binaryOp .Add) rCat := by
  intro pins s σ H x y v u Q I rx ry h
  obtain ⟨l, b, xs, zs, rfl, rfl, hH, hB, hz, q⟩ := h
  cases rx
  cases ry
  obtain ⟨z, its, n, r, hl, e⟩ := I.lstM hH
  obtain ⟨z2, its2, n2, r2, hl2, e2⟩ := I.lstM hB
  refine PySem.P.add_list e e2 ?_ (by rw [List.size_toArray, List.size_toArray]; omega)
  have ea : its.toArray ++ its2.toArray = (its ++ its2).toArray := by simp
  rw [ea]
  exact ⟨.ref _, _, I.lnew (t' := s.toks) (r.append r2) (by rw [List.length_append]; omega), rfl, q _ I.fresh⟩
/-- a list times an int (a negative one is nothing) -/
def rRep : R2 := fun x y H Q => ∃ l k xs, x = .ref l ∧ y = .int k ∧ H l = some (.lst xs) ∧ -(2 ^ 63) ≤ k ∧ k < 2 ^ 63 ∧ xs.length * k.toNat ≤ sizeLine ∧
  ∀ p, H p = none → Q (.ref p) (upd H p (.lst (List.replicate k.toNat xs).flatten))
/-! ### del xs[i] -/
end

/-! ### xs[a:b] = ys -/
section
variable {prog : Program} {w : World} {A : Around} {E : Value → Shared → Prop} {s : Shared}
end

section
variable {X : Cx}
end
end L2

namespace Att
open PySem PySem.W PySem.Calls PyProof.Rows

/-! ### the script -/
theorem ints_of_wellAll {P : Params} {h : Heap} : ∀ (ns : List Int) (vs : List Value), WellAll P h vs (ns.map WData.int) → IntsAre vs ns := by
  intro ns
  induction ns with
  | nil =>
    intro vs w
    rw [List.map_nil] at w
    cases w
    exact .nil
  | cons n ns ih =>
    intro vs w
    rw [List.map_cons] at w
    cases w with
    | cons a b =>
      cases a
      exact .cons _ _ (ih _ b)

theorem script_of {l : OpenLaw} {n : Nat} (hn : l.most = some n) {P : Params} {h : Heap} {args : List WData} {vals : List Value}
    (hpre : l.row.toRowW.claim.pre args = true) (hwl : WellAll P h vals args) :
    ∃ a vs ns, vals = [Value.ref a] ∧ args = [WData.list (ns.map WData.int)] ∧ h.get? a = some { cls := .type "list", data := .seq vs.toArray } ∧ IntsAre vs ns ∧ ns.length ≤ n := by
  have hsh : WShape.hasAll [] args [.list .int] = true := (pre_splitW hpre).1
  have hc : l.pre.holds [] { args := args } = true := (pre_splitW hpre).2
  obtain ⟨d, r, rfl, h1, h2⟩ := hasAllW_cons hsh
  obtain rfl := hasAllW_nil h2
  obtain ⟨xs, rfl, h3⟩ := hasW_list h1
  obtain ⟨ns, rfl⟩ := items_int h3
  have hlen : ns.length ≤ n := by
    unfold OpenLaw.pre at hc
    have h4 : (WTm.not (.lt (.lit (.int (n : Int))) (.len (.arg 0)))).holds [] { args := [.list (ns.map .int)] } = true := by
      have h4 := (holds_andW hc).1
      rw [hn] at h4
      exact h4
    have h5 := condW_of h4 (w_not (w_lt w_lit (w_len_list (w_arg rfl))))
    rw [List.length_map] at h5
    refine Nat.le_of_not_lt fun q => ?_
    have q' : (n : Int) < ((ns.length : Nat) : Int) := by omega
    first
      | (rw [decide_eq_true q'] at h5; exact absurd h5 (by decide))
      | (simp at h5; omega)
  cases hwl with
  | cons w1 w2 =>
    cases w2
    cases w1 with
    | list ho hall => exact ⟨_, _, ns, rfl, rfl, ho, ints_of_wellAll ns _ hall, hlen⟩

theorem post_true (l : OpenLaw) (args : List WData) : l.row.toRowW.claim.post args (.bool true) args = true :=
  postW_of (r := l.row.toRowW) (X := (true == true))
    (show WShape.has [] (.bool true) .bool = true by first | rfl | decide | simp [WShape.has, WShape.arms, WShape.armsAll])
    (show (WTm.eq .res (.lit (.bool true))).value [] { args := args, res := some (.bool true), after := args } = some (.bool (true == true)) from w_eq_bool (w_res rfl) w_lit) rfl

/-! ### the attachment: holds_open's last premise (the goal 'hc' behind k_head) from a wpAny of the law's body -/
/-- the same from a codeAny of the CALL (for a layer whose function contracts speak of calls) -/
theorem attach_call {l : OpenLaw} {n : Nat} {q : Program} {loose : List Str} {XP : (Str → Option Value) → Heap → Prop} {YP : World → Heap → Prop} {d : DefRec}
    (hn : l.most = some n) (hdf : d.params.defaults = [])
    (call : ∀ (w : World) (s₀ s₁ : Shared) (mg mb : Str → Option Value) (fa : Addr) (o : Obj) (pm cd doc : Value) (a : Addr) (vs : List Value) (ns : List Int),
      Ground q loose [] XP w s₀ mg mb s₁.heap → YP w s₁.heap →
      s₁.heap.get? fa = some o → o.data = .func (docDef d.name d.params d.body d.scope pm cd doc) → s₁.heap.CodeRec cd d.name → mg d.name = some (.ref fa) →
      s₁.heap.get? a = some { cls := .type "list", data := .seq vs.toArray } → IntsAre vs ns → ns.length ≤ n → s₁.gens = #[] →
      codeAny (model l.prog w) callerA (.call (.ref fa) ⟨[.ref a], []⟩) (fun r s' => r = .ok (.ret (.bool true)) ∧ OldK s₁.heap s'.heap ∧ s'.os = s₁.os ∧ AllBare s'.gens) s₁) :
    WalkO q loose XP YP l.row.toRowW d [] (fun f vs => PySem.call f vs) := by
  intro w s₀ s₁ mg mb G Y fa o pm cd doc dV kV ho hd hcd hD hmg hg args vals as hpre hlay hrd hwl hlo
  obtain rfl : dV = .none := Dflts.none hD hdf
  obtain rfl : kV = .none := Dflts.noKw hD
  obtain ⟨a, vs, ns, rfl, rfl, hobj, hints, hlen⟩ := script_of hn hpre hwl
  refine enter_call (codeAny_mono (call w s₀ s₁ mg mb fa o pm cd doc a vs ns G Y ho (fd_plain hd) hcd hmg hobj hints hlen hg) fun r s' hq => ?_)
  obtain ⟨rfl, h2, h3, h4⟩ := hq
  exact ⟨.inl ⟨.bool true, .bool true, [], rfl, fun _ => rfl, .bool true, post_true l _, fun _ => ⟨List.Pairwise.nil, fun _ hm => (nomatch hm)⟩⟩, h2, h3, h4⟩

/-! ### rules over ANY heap (no ledger) from facts about the written part K: the library's own take a ledger (News) for what they write -/
section
variable {prog : Program} {w : World} {A : Around} {E : Value → Shared → Prop} {s : Shared} {K : Frag}

/-! the whole heap as the ledger: makes every rule that writes through a ledger a rule over any heap -/
def noObjs (h : Heap) : Heap := { h with objs := #[] }
def ledger (h : Heap) (L d : Addr) : List (Addr × Obj) := (List.range h.objs.size).filterMap fun a => if a = L ∨ a = d then none else (h.get? a).map fun o => (a, o)
end
end Att

namespace L2
open PySem PySem.Spec PyProof.Rows

theorem vals_ints : ∀ {vs : List Value} {ns : List Int}, IntsAre vs ns → Vals (ns.map V.int) vs
  | _, _, .nil => .nil
  | _, _, .cons n t h => .cons ⟨t, rfl⟩ (vals_ints h)

/-- nothing is tracked but the script, known to the object (or it is an object of the module) -/
def Only (H : Hp) : Prop := ∀ b, H b = none ∨ ∃ o xs, H b = some (.frz o (.lst xs))

/-- THE HEAD: the law's promise, at the heap behind the top. F, the promise of the law's def, may use that base is part of the heap (so K.In base, base.Ns mainGlobals mg stand in Mod) -/
theorem law_call {P : Program} {w : World} {K : PySem.W.Frag} {mg mb : Str → Option Value} {CX : CXT} {k : Nat} {fa a : Addr} {fd : FuncData} {x : Str} {sp : Sp} {s₁ : Shared} {vs : List Value} {ns : List Int}
    (KX : K.In s₁.heap) (hns : s₁.heap.Ns mainGlobals mg) (hb : s₁.heap.Ns builtinsNs mb) (hbb : ∀ x : Str, x ≠ "__name__" → mb x = bootBuiltins x) (hlim : s₁.heap.NoLimit) (hg : s₁.gens = #[])
    (ha : s₁.heap.get? a = some { cls := .type "list", data := .seq vs.toArray }) (hi : IntsAre vs ns) (hl : ns.length ≤ sizeLine) (hr : Room k callerA)
    (F : ∀ base : Heap, K.In base → base.Ns mainGlobals mg → FnOk P w K mg base CX k fa fd [x] sp) (hbind : ∀ (s : Shared) (u : Value), BindsTo s fd ⟨[u], []⟩ [(x, u)])
    (hsp : ∀ H : Hp, Only H → SqL K H a (ns.map V.int) → sp [.ref a] H (fun v _ => v = .bl true) fun _ _ _ => False)
    (hCX : ∀ H e s', CX [] H s₁ (fun _ _ _ => False) e s' → False) :
    codeAny (model P w) callerA (.call (.ref fa) ⟨[.ref a], []⟩) (fun r s' => r = .ok (.ret (.bool true)) ∧ OldK s₁.heap s'.heap ∧ s'.os = s₁.os ∧ AllBare s'.gens) s₁ := by
  have rv := vals_ints hi
  have lenV := hi.length
  -- from an abstract heap in which nothing but the script may be tracked
  have core : ∀ H : Hp, Only H → SqL K H a (ns.map V.int) → HOk P w H s₁.heap → (∀ b, H b ≠ none → b = a) → (H a ≠ none → K.lookup a = none) →
      codeAny (model P w) callerA (.call (.ref fa) ⟨[.ref a], []⟩) (fun r s' => r = .ok (.ret (.bool true)) ∧ OldK s₁.heap s'.heap ∧ s'.os = s₁.os ∧ AllBare s'.gens) s₁ := by
    intro H hO hS hok hA hK
    have base_of : ∀ {b : Addr} {o : Obj}, s₁.heap.get? b = some o → H b = none → (hidT s₁.heap H).get? b = some o := fun e n => hidT_get e n
    have noA : ∀ {b : Addr} {o : Obj} {es : Array DictEntry} {ep : Nat}, s₁.heap.get? b = some o → o.data = .dict es ep → H b = none := fun {b o es ep} e d => by
      cases q : H b with
      | none => rfl
      | some u =>
        have e' : b = a := hA b (by rw [q]; simp)
        subst e'
        rw [ha] at e; cases e
        have d' : Data.seq vs.toArray _ = Data.dict es ep := d
        cases d'
    have nsK : ∀ {b : Addr} {m : Str → Option Value}, s₁.heap.Ns b m → (hidT s₁.heap H).Ns b m := fun {b m} ⟨o, es, ep, e, d, r⟩ => ⟨o, es, ep, base_of e (noA e d), d, r⟩
    have hKb : K.In (hidT s₁.heap H) := fun b o e => base_of (KX b o e) (by
      cases q : H b with
      | none => rfl
      | some u =>
        have e' : b = a := hA b (by rw [q]; simp)
        subst e'
        rw [hK (by rw [q]; simp)] at e; cases e)
    have hM : Mod K mg (hidT s₁.heap H) := ⟨hKb, nsK hns, ⟨mb, nsK hb, hbb⟩, let ⟨mc, h1, h2⟩ := hlim; ⟨mc, nsK h1, h2⟩⟩
    have e0 : Env0 P w K mg (hidT s₁.heap H) callerA [] s₁ H := ⟨rfl, hM, fun b o e => of_hidT e, Nat.le_of_eq (hidT_size _ _), trivial, fun b hb => absurd (show b ∈ ([] : List Addr) from hb) (by simp), hok, .of_eq hg⟩
    refine codeAny_mono ((F _ hKb (nsK hns)).run callerA [] s₁ H ⟨[.ref a], []⟩ [.ref a] [.ref a] _ _ hr e0 (hbind s₁ (.ref a)) (.cons rfl .nil) (hsp H hO hS)) fun r s' h => ?_
    cases r with
    | error e => exact (hCX H e s' h).elim
    | ok fl =>
      cases fl with
      | next => exact False.elim h
      | brk => exact False.elim h
      | cont => exact False.elim h
      | ret u =>
        obtain ⟨v, H', os, bare, un, hok', r', q⟩ := h
        have q' : v = .bl true := q
        subst q'
        obtain rfl : u = Value.bool true := r'
        refine ⟨rfl, OldK.of_keep fun b o e => ?_, os, bare⟩
        cases q : H b with
        | none => exact un.keep b o e q (by intro z; exact absurd (show b ∈ ([] : List Addr) from z) (by simp)) (by simp)
        | some u =>
          rcases hO b with z | ⟨ob, xs, z⟩
          · rw [q] at z; cases z
          · have z2 := un.frzs b ob _ z
            obtain ⟨e1, _⟩ := hok b _ z
            obtain ⟨e2, _⟩ := hok' b _ z2
            rw [e] at e1; cases e1
            exact e2
  cases hk : K.lookup a with
  | some o =>
    -- the script is one of the module's own objects
    have e := KX a o hk
    rw [ha] at e
    cases e
    refine core (fun _ => none) (fun _ => .inl rfl) (.inr ⟨_, vs.toArray, _, hk, rfl, rfl, rfl, by rw [List.size_toArray, lenV]; exact hl, by simpa using rv⟩) (fun b u z => by have z' : (none : Option HO) = some u := z; cases z') (fun b z => absurd rfl z) fun z => absurd rfl z
  | none =>
    refine core (fun b => if b = a then some (.frz { cls := .type "list", data := .seq vs.toArray } (.lst (ns.map V.int))) else none) (fun b => ?_) (.inl (.inr ⟨{ cls := .type "list", data := .seq vs.toArray }, if_pos rfl⟩)) (fun b u z => ?_) (fun b z => ?_) fun _ => hk
    · by_cases hb : b = a
      · exact .inr ⟨_, _, if_pos hb⟩
      · exact .inl (if_neg hb)
    · by_cases hb : b = a
      · have z' := (if_pos hb).symm.trans z
        cases z'
        subst hb
        exact ⟨ha, by rw [List.length_map]; exact hl, vs, _, rv, ha⟩
      · have z' := (if_neg hb).symm.trans z
        cases z'
    · by_cases hb : b = a
      · exact hb
      · exact absurd (if_neg hb) z
end L2

namespace L2
open PySem PySem.Spec PyProof.Rows

abbrev KOf {K : PySem.W.Frag} {h : Heap} (_ : K.In h) : PySem.W.Frag := K

/-- the goal that k_head leaves (case hc), from the law's promise. F gives the function object fd (K's own) once, then the promise over every base -/
theorem walk_of {l : PySem.W.OpenLaw} {n k : Nat} {q : Program} {loose : List Str} {XP : (Str → Option Value) → Heap → Prop} {YP : World → Heap → Prop} {d : DefRec} {K : Params → PySem.W.Frag} {CX : World → CXT} {sp : World → Sp} {x : Str}
    (hn : l.most = some n) (hn2 : n ≤ sizeLine) (hdf : d.params.defaults = []) (hr : Room k callerA)
    (hY : ∀ (w : World) (h : Heap), YP w h → (K w.params).In h)
    (F : ∀ (w : World) (mg : Str → Option Value) (fa : Addr) (h : Heap), (K w.params).In h → h.Ns mainGlobals mg → mg d.name = some (.ref fa) →
      ∃ fd : FuncData, (∀ (s : Shared) (u : Value), BindsTo s fd ⟨[u], []⟩ [(x, u)]) ∧
        ∀ base : Heap, (K w.params).In base → base.Ns mainGlobals mg → FnOk l.prog w (K w.params) mg base (CX w) k fa fd [x] (sp w))
    (hsp : ∀ (w : World) (H : Hp) (a : Addr) (ns : List Int), ns.length ≤ n → Only H → SqL (K w.params) H a (ns.map V.int) → sp w [.ref a] H (fun v _ => v = .bl true) fun _ _ _ => False)
    (hCX : ∀ (w : World) (H : Hp) (s : Shared) (e : Value) (s' : Shared), CX w [] H s (fun _ _ _ => False) e s' → False) :
    PySem.W.WalkO q loose XP YP l.row.toRowW d [] (fun f vs => PySem.call f vs) := by
  refine Att.attach_call hn hdf fun w s₀ s₁ mg mb fa o pm cd doc a vs ns G Y ho hd hcd hmg hobj hints hlen hg => ?_
  have KX := hY w _ Y
  obtain ⟨fd, hb, hF⟩ := F w mg fa _ KX G.T.g hmg
  exact law_call KX G.T.g G.T.b G.T.builtins G.T.nolimit hg hobj hints (Nat.le_trans hlen hn2) hr hF hb (fun H hO hS => hsp w H a ns hlen hO hS) fun H e s' => hCX w H s₁ e s'
end L2

/-! SHORT WORDS over the layer: a def of the text, its body, what a loop and a test want. -/
namespace L2
open PySem PySem.Spec PyProof.Rows

/-! ### the text by places -/
/-- the j-th statement of a class's body -/
def inClass (s : Stmt) (j : Nat) : Stmt := match s with
  | .ClassDef _ _ _ body _ _ _ _ _ _ _ => body.getD j (.Pass ⟨0, 0, 0, 0⟩)
  | _ => .Pass ⟨0, 0, 0, 0⟩
def defArgs (s : Stmt) : Arguments := match s with
  | .FunctionDef _ a _ _ _ _ _ _ _ _ => a
  | _ => { posonlyargs := [], args := [], vararg := none, kwonlyargs := [], kw_defaults := [], kwarg := none, defaults := [] }
def defBody (s : Stmt) : List Stmt := match s with
  | .FunctionDef _ _ b _ _ _ _ _ _ _ => b
  | _ => []
def defScope (s : Stmt) : Scope := match s with
  | .FunctionDef _ _ _ _ _ _ sc _ _ _ => sc
  | _ => { kind := .function, names := [], isGenerator := false, isCoroutine := false }

/-! ### no exception leaves a def -/
abbrev CX0 : CXT := fun _ _ _ _ _ _ => False
abbrev E0 : XK := fun _ _ _ => False
theorem pass0 {X : Cx} : Passes CX0 X E0 := fun _ _ _ _ _ _ _ h => h.elim

/-! ### a def (or method) of the text as it stands behind the top -/
structure Fun (K : PySem.W.Frag) (x qual : Str) (st : Stmt) (f : Addr) (fd : FuncData) : Prop where
  ex : ∃ (oc : Value) (od : Option Addr) (kV doc pm : Value) (an : Option Addr) (cdv ct : Value) (osl : Array (Option Value)),
    fd = PySem.W.fnOf x qual (defArgs st) (defBody st) (defScope st) .none kV doc pm an cdv ct ∧ K.lookup f = some ⟨oc, od, .func fd, osl⟩ ∧ PySem.W.codeIn K cdv qual = true
  kp : PySem.W.keepIn K (.ref f) = true
section
variable {P : Program} {w : World} {K : PySem.W.Frag} {mg : Str → Option Value} {base : Heap}
/-- THE RULE for a def: its body as a term of rules, and the reading of that term -/
theorem Fun.ok {x qual : Str} {st : Stmt} {f : Addr} {fd : FuncData} {N ps : List Str} {k : Nat} {sp : Sp} (F : Fun K x qual st f fd) (S : FnScope N ps (defScope st)) (len : ∀ vs H Q E, sp vs H Q E → vs.length = ps.length)
    (hbody : ∀ (cdv : Value) (A : Around) (outer : List Env) (s : Shared) (H : Hp) (vs : List V) (Q : VK) (E : XK), Room k (A.deeper (envOfC qual (defScope st) s.heap.objs.size f cdv)) → sp vs H Q E →
      ∃ t, PSs (cxOf CX0 P w K mg base N qual (defScope st) f cdv A outer s H E).nox (defBody st) t ∧ t { nx := fun _ H' => Q .non H', rt := Q } (start N vs) H) : FnOk P w K mg base CX0 (k + 1) f fd ps sp := by
  obtain ⟨oc, od, kV, doc, pm, an, cdv, ct, osl, rfl, lk, hcd⟩ := F.ex
  refine fn_of lk hcd S len fun A outer s H vs Q E hr hsp => ?_
  obtain ⟨t, h, q⟩ := hbody cdv A outer s H vs Q E hr hsp
  exact ⟨t, h.nox, q⟩
/-- how its arguments bind (no defaults): h is «fun _ _ _ _ _ _ us hl => match us, hl with | [_, _], _ => rfl», one _ a parameter -/
theorem Fun.binds {x qual : Str} {st : Stmt} {f : Addr} {fd : FuncData} {ps : List Str} (F : Fun K x qual st f fd)
    (h : ∀ (kV doc pm : Value) (an : Option Addr) (cdv ct : Value) (us : List Value), us.length = ps.length → bindArgs (PySem.W.fnOf x qual (defArgs st) (defBody st) (defScope st) .none kV doc pm an cdv ct) ⟨us, []⟩ = pure (ps.zip us)) : Binds K fd ps [] := by
  obtain ⟨oc, od, kV, doc, pm, an, cdv, ct, osl, rfl, lk, hcd⟩ := F.ex
  exact .all (h kV doc pm an cdv ct)
end
theorem small1000 {n : Nat} (h : n ≤ 1000) : n < sizeLine := Nat.lt_of_le_of_lt h (by decide)

/-! ### expressions in short: the name that stands in the i-th slot -/
section
variable {X : Cx}
theorem pv (i : Nat) {x : Str} {pos : Pos} (hN : X.N[i]? = some x := by rfl) (hv : Vis X.env.scope x := by first | exact Or.inl rfl | exact Or.inr (Or.inl rfl) | exact Or.inr (Or.inr rfl)) (hd : (x == ("__debug__" : Str)) = false := by decide)
    (hcd : (x == ("__classdict__" : Str)) = false := by decide) : PE X (.Name x pos) (tVar i) := pe_var hN hv hd hcd
end

/-! ### tests -/
theorem iteT {A B : Prop} (h : A) : if true = true then A else B := by
  rw [if_pos rfl]
  exact h
theorem ite2 {c A B : Prop} [Decidable c] (h1 : c → A) (h2 : ¬ c → B) : if c then A else B := by
  by_cases h : c
  · rw [if_pos h]
    exact h1 h
  · rw [if_neg h]
    exact h2 h
/-! ### heaps -/
/-- all that was tracked is as it was -/
def Same (H H' : Hp) : Prop := ∀ b o, H b = some o → H' b = some o
theorem Same.refl (H : Hp) : Same H H := fun _ _ h => h
theorem Same.trans {H H1 H2 : Hp} (a : Same H H1) (b : Same H1 H2) : Same H H2 := fun c o h => b c o (a c o h)
theorem Same.free {H H' : Hp} (e : Same H H') {l : Addr} (h : H' l = Option.none) : H l = Option.none := by
  cases q : H l with
  | none => rfl
  | some o =>
    rw [e l o q] at h
    cases h
theorem Same.seq {K : PySem.W.Frag} {H H' : Hp} {a : Addr} {xs : List V} (e : Same H H') (h : SqL K H a xs) : SqL K H' a xs := by
  rcases h with (h | ⟨o, h⟩) | h
  · exact .inl (.inl (e _ _ h))
  · exact .inl (.inr ⟨o, e _ _ h⟩)
  · exact .inr h

end L2

/-! EXTENSION A of the hand layer: list comprehensions. -/
namespace L2
open PySem PySem.Spec PyProof.Rows

section
variable {prog : Program} {w : World} {A : Around} {R : Result → Shared → Prop} {s : Shared}
theorem compLoop_any {elt target iter : Expr} {ifs : List Expr} {scope : Scope} {pos : Pos} {it acc : Value} {env : Env} (I : Nat → Shared → Prop)
    (turn : ∀ n s, I n s → wpAny (model prog w) A (pyNext it) (fun r s₁ => match r with
      | none => R (.ok .next) s₁
      | some v => wpAny (model prog w) A (letOwnedTupleGo target it v) (fun _ s₁' => wpAny (model prog w) A (assign target env v) (fun _ s₂ =>
          wpAny (model prog w) A (forIn ifs true fun c r => if r = true then do let ok ← isTrue c env (eval c env); pure (ForInStep.yield ok) else pure (ForInStep.yield r)) (fun ok s₃ =>
            if ok = true then wpAny (model prog w) A (eval elt env) (fun x s₄ =>
              wpAny (model prog w) A (call (.builtin "list.append") [acc, x]) (fun _ s₅ => ∃ m, m < n ∧ I m s₅) (notedBy (model prog w) A env fun e s' => R (.error e) s') s₄) (notedBy (model prog w) A env fun e s' => R (.error e) s') s₃
            else ∃ m, m < n ∧ I m s₃) (notedBy (model prog w) A env fun e s' => R (.error e) s') s₂) (notedBy (model prog w) A env fun e s' => R (.error e) s') s₁') (notedBy (model prog w) A env fun e s' => R (.error e) s') s₁) (notedBy (model prog w) A env fun e s' => R (.error e) s') s)
    (n : Nat) (h : I n s) :
    codeAny (model prog w) A (.compLoop (.ListComp elt [⟨target, iter, ifs, 0⟩] scope pos) 0 it acc env) R s := by
  refine codeAny_loop rfl I (fun n s hI => ?_) n h
  show wpAny _ A ((compTurn (.ListComp elt [⟨target, iter, ifs, 0⟩] scope pos) 0 it acc env).onRaise (fun x => do noteFrame x env; theTreesLotGoes x)) _ _ s
  refine wpAny_noted ?_
  rw [compTurn_list]
  refine wpAny_bind (wpAny_standAt (wpAny_bind (wpAny_mono (turn n s hI) (fun r s₁ h₁ => ?_) fun _ _ h' => h')))
  cases r with
  | none => exact wpAny_pure h₁
  | some v =>
    refine wpAny_bind (wpAny_mono h₁ (fun _ s₁' h₁' => ?_) fun _ _ h' => h')
    refine wpAny_bind (wpAny_mono h₁' (fun _ s₂ h₂ => wpAny_bind (wpAny_mono h₂ (fun ok s₃ h₃ => ?_) fun _ _ h' => h')) fun _ _ h' => h')
    cases ok with
    | false => exact wpAny_pure ⟨rfl, h₃⟩
    | true =>
      exact wpAny_bind (wpAny_bind (wpAny_mono h₃ (fun x s₄ h₄ => wpAny_bind (wpAny_mono h₄ (fun _ s₅ h₅ => wpAny_pure (wpAny_pure ⟨rfl, h₅⟩)) fun _ _ h' => h')) fun _ _ h' => h'))
end

/-! ### the closure -/
theorem closure_go {env : Env} : ∀ (names : List (Str × NameKind)) (cs : List (Str × Addr)), (∀ y ∈ names, y.2 = .free → ∃ c, env.cells.lookup y.1 = some c) →
    (∀ y c, cs.lookup y = some c → env.cells.lookup y = some c) →
    ∃ cl : List (Str × Addr), (forIn (m := Sem) names cs fun x r => do
        if (x.2 == NameKind.free) = true then do
          let a ← cellOf env x.1
          pure (ForInStep.yield ((x.1, a) :: r))
        else pure (ForInStep.yield r)) = pure cl ∧ (∀ y c, cl.lookup y = some c → env.cells.lookup y = some c) ∧
      (∀ y, ((y, NameKind.free) ∈ names ∨ ∃ c, cs.lookup y = some c) → ∃ c, cl.lookup y = some c)
  | [], cs, _, hc => ⟨cs, rfl, hc, fun y h => h.elim (fun z => nomatch z) id⟩
  | (n, k) :: r, cs, hn, hc => by
    by_cases hk : k = .free
    · subst hk
      obtain ⟨c, e⟩ := hn (n, .free) List.mem_cons_self rfl
      have hc' : ∀ y d, ((n, c) :: cs).lookup y = some d → env.cells.lookup y = some d := fun y d q => by
        rw [List.lookup_cons] at q
        cases z : y == n with
        | true =>
          rw [z] at q
          have := beq_iff_eq.mp z
          subst this
          cases q
          exact e
        | false => rw [z] at q; exact hc y d q
      obtain ⟨cl, h1, h2, h3⟩ := closure_go r ((n, c) :: cs) (fun y hy => hn y (List.mem_cons_of_mem _ hy)) hc'
      refine ⟨cl, ?_, h2, fun y hy => h3 y ?_⟩
      · rw [List.forIn_cons]
        have ec : cellOf env n = pure c := by unfold cellOf; rw [e]
        show ((if (NameKind.free == NameKind.free) = true then _ else _) >>= _) = _
        rw [if_pos (by rfl)]
        show ((cellOf env n >>= _) >>= _) = _
        rw [ec]
        exact h1
      · rcases hy with hy | ⟨d, hy⟩
        · rcases List.mem_cons.mp hy with z | z
          · cases z
            exact .inr ⟨c, by rw [List.lookup_cons, beq_self_eq_true]⟩
          · exact .inl z
        · refine .inr ?_
          rw [List.lookup_cons]
          cases z : y == n with
          | true => exact ⟨c, rfl⟩
          | false => exact ⟨d, hy⟩
    · obtain ⟨cl, h1, h2, h3⟩ := closure_go r cs (fun y hy => hn y (List.mem_cons_of_mem _ hy)) hc
      refine ⟨cl, ?_, h2, fun y hy => h3 y ?_⟩
      · rw [List.forIn_cons]
        have hb : (k == NameKind.free) = false := by simpa using hk
        show ((if (k == NameKind.free) = true then _ else _) >>= _) = _
        rw [if_neg (by rw [hb]; decide)]
        exact h1
      · rcases hy with hy | hy
        · rcases List.mem_cons.mp hy with z | z
          · cases z; exact absurd rfl hk
          · exact .inl z
        · exact .inr hy
theorem closure_ok {env : Env} {scope : Scope} (hn : ∀ y ∈ scope.names, y.2 = .free → ∃ c, env.cells.lookup y.1 = some c) :
    ∃ cl : List (Str × Addr), closureFor scope env = pure cl ∧ (∀ y c, cl.lookup y = some c → env.cells.lookup y = some c) ∧ (∀ y, (y, NameKind.free) ∈ scope.names → ∃ c, cl.lookup y = some c) := by
  obtain ⟨cl, h1, h2, h3⟩ := closure_go (env := env) scope.names [] hn (fun y c q => nomatch q)
  refine ⟨cl, ?_, h2, fun y hy => h3 y (.inl hy)⟩
  unfold closureFor
  show (_ >>= fun cs => pure cs) = _
  have e : ∀ m : Sem (List (Str × Addr)), (m >>= fun cs => pure cs) = m := fun m => bind_pure m
  rw [e]
  exact h1

/-! ### the block -/
/-- names of the comprehension's block that stand in the enclosing frame as cells: their slots there -/
inductive Ixs (N : List Str) (sc cs : Scope) : List Str → List Nat → Prop
  | nil : Ixs N sc cs [] []
  | cons {y r j q} (h1 : N[j]? = some y) (h2 : sc.names.lookup y = some .cell ∨ sc.names.lookup y = some .free) (h3 : cs.names.lookup y = some .free) (t : Ixs N sc cs r q) : Ixs N sc cs (y :: r) (j :: q)
structure CompScope (N : List Str) (sc : Scope) (N' : List Str) (ix : List Nat) (x : Str) (r : List Str) (cs : Scope) : Prop where
  eq : N' = x :: r
  kind : cs.kind = .function
  hcell : ∀ y ∈ cs.names, y.2 ≠ .cell
  hnames : ∀ y ∈ cs.names, y.2 = .local → cs.names.lookup y.1 = some .local
  hx : cs.names.lookup x = some .local
  nd : (x :: r).Nodup
  fr : ∀ y ∈ cs.names, y.2 = .free → sc.names.lookup y.1 = some .cell ∨ sc.names.lookup y.1 = some .free
  ixs : Ixs N sc cs r ix
def slotsAt (σ : St) (ix : List Nat) : St := ix.map fun j => (σ[j]?).getD none
def compCx (X : Cx) (N' : List Str) (cs : Scope) (cl : List (Str × Addr)) (s3 : Shared) (H3 : Hp) (fp : List Addr) : Cx :=
  { X with N := N', s₀ := s3, H₀ := H3, env := compEnvC cs cl s3.heap.objs.size X.env, outer := X.stack, stack := X.stack, ex := fp, fn := fun _ => false, pn := [], xe := fun _ _ => False }

theorem relabel_free {env : Env} {cs : Scope} (hcell : ∀ y ∈ cs.names, y.2 ≠ .cell) {y : Str} {k : NameKind} (h : (relabel cs env).names.lookup y = some k) (hk : k = .cell ∨ k = .free) : (y, NameKind.free) ∈ cs.names := by
  have m := PySem.mem_of_lookup h
  obtain ⟨⟨n, k0⟩, h1, h2⟩ := List.mem_map.mp m
  by_cases c : (k0 == NameKind.free && env.scope.kind == .function && env.kindOf n == some .cell) = true
  · have h2' : (n, NameKind.cell) = (y, k) := by rw [← h2]; exact (if_pos c).symm
    cases h2'
    have : k0 = .free := by
      have z := (Bool.and_eq_true_iff.mp (Bool.and_eq_true_iff.mp c).1).1
      exact beq_iff_eq.mp z
    rw [this] at h1
    exact h1
  · have h2' : (n, k0) = (y, k) := by rw [← h2]; exact (if_neg c).symm
    cases h2'
    rcases hk with rfl | rfl
    · exact absurd rfl (hcell _ h1)
    · exact h1

theorem lookup_relabel_free {env : Env} : ∀ {names : List (Str × NameKind)} {x : Str}, names.lookup x = some .free →
    (names.map fun (n, k) => if (k == NameKind.free && env.scope.kind == .function && env.kindOf n == some .cell) then (n, NameKind.cell) else (n, k)).lookup x = some .cell ∨
    (names.map fun (n, k) => if (k == NameKind.free && env.scope.kind == .function && env.kindOf n == some .cell) then (n, NameKind.cell) else (n, k)).lookup x = some .free
  | [], _, h => by simp at h
  | (n, k) :: r, x, h => by
    have ih := @lookup_relabel_free env r x
    rw [List.map_cons]
    show List.lookup x ((if (k == NameKind.free && env.scope.kind == .function && env.kindOf n == some .cell) = true then (n, NameKind.cell) else (n, k)) :: _) = _ ∨ List.lookup x ((if (k == NameKind.free && env.scope.kind == .function && env.kindOf n == some .cell) = true then (n, NameKind.cell) else (n, k)) :: _) = _
    cases hx : x == n with
    | true =>
      simp only [List.lookup_cons, hx] at h
      cases h
      by_cases hc : (NameKind.free == NameKind.free && env.scope.kind == .function && env.kindOf n == some .cell) = true
      · rw [if_pos hc]; exact .inl (by simp only [List.lookup_cons, hx])
      · rw [if_neg hc]; exact .inr (by simp only [List.lookup_cons, hx])
    | false =>
      simp only [List.lookup_cons, hx] at h
      by_cases hc : (k == NameKind.free && env.scope.kind == .function && env.kindOf n == some .cell) = true
      · rw [if_pos hc]; simp only [List.lookup_cons, hx]; exact ih h
      · rw [if_neg hc]; simp only [List.lookup_cons, hx]; exact ih h

theorem Ixs.get {N : List Str} {sc cs : Scope} : ∀ {r : List Str} {ix : List Nat}, Ixs N sc cs r ix → ∀ {i : Nat} {y : Str}, r[i]? = some y →
    ∃ j, ix[i]? = some j ∧ N[j]? = some y ∧ (sc.names.lookup y = some .cell ∨ sc.names.lookup y = some .free) ∧ cs.names.lookup y = some .free
  | _, _, .nil, i, y, h => by simp at h
  | _, _, .cons h1 h2 h3 t, 0, y, h => by simp at h; subst h; exact ⟨_, rfl, h1, h2, h3⟩
  | _, _, .cons h1 h2 h3 t, i + 1, y, h => by
    obtain ⟨j, a, b⟩ := Ixs.get t (i := i) (y := y) (by simpa using h)
    exact ⟨j, by simpa using a, b⟩
theorem Ixs.len {N : List Str} {sc cs : Scope} : ∀ {r : List Str} {ix : List Nat}, Ixs N sc cs r ix → r.length = ix.length
  | _, _, .nil => rfl
  | _, _, .cons _ _ _ t => by rw [List.length_cons, List.length_cons, t.len]

section
variable {X : Cx} {pins : List (Addr × Obj)} {σ : St} {H : Hp} {s : Shared}
theorem Inv.compOk {N' r : List Str} {ix : List Nat} {x : Str} {cs : Scope} {cl : List (Str × Addr)} {fp : List Addr} (I : Inv X pins σ H s) (S : CompScope X.N X.env.scope N' ix x r cs)
    (h2 : ∀ y c, cl.lookup y = some c → X.env.cells.lookup y = some c) (h3 : ∀ y, (y, NameKind.free) ∈ cs.names → ∃ c, cl.lookup y = some c) (hf : ∀ b ∈ fp, FpOk X pins H b) (hfp : ∀ b ∈ fp, b < s.heap.objs.size) :
    (compCx X N' cs cl s H fp).Ok where
  mod := I.ok.mod
  kind := S.kind
  glob := I.ok.glob
  blt := I.ok.blt
  above := Nat.le_refl _
  inj := fun a b c ha hb => I.ok.inj a b c (h2 a c ha) (h2 b c hb)
  has := fun y hy => h3 y (hy.elim (fun z => relabel_free S.hcell z (.inl rfl)) fun z => relabel_free S.hcell z (.inr rfl))
  cab := fun _ _ z => nomatch z
  hd := I.ok.hd
  frames := I.ok.frames
  stk := .inl rfl
  exf := fun b hb => ⟨Nat.ne_of_lt (hfp b hb), fun y c e => (hf b hb).2.2.2.2.1 y c (h2 y c e)⟩
  bs := I.bs
  bsz := Nat.le_trans I.ok.bsz I.sz
  noex := fun b o e hb => by
    rcases (hf b hb).2.2.2.1 with z | z
    · exact I.ok.noex b o e z
    · exact absurd (Nat.lt_of_lt_of_le (Heap.lt_size e) (Nat.le_trans I.ok.bsz z)) (Nat.lt_irrefl _)
  exfs := fun b hb hs => by
    rcases List.mem_cons.mp (I.stkSub b hs) with z | z
    · exact (hf b hb).2.1 z
    · exact (hf b hb).2.2.1 z
  funs := I.stack
  frf := I.stkFree
theorem slotsAt_get {σ : St} {ix : List Nat} {i : Nat} {v : V} (h : (slotsAt σ ix)[i]? = some (some v)) : ∃ j, ix[i]? = some j ∧ σ[j]? = some (some v) := by
  unfold slotsAt at h
  rw [List.getElem?_map] at h
  cases e : ix[i]? with
  | none => rw [e] at h; cases h
  | some j =>
    rw [e] at h
    refine ⟨j, rfl, ?_⟩
    cases q : σ[j]? with
    | none =>
      have h' : ((σ[j]?).getD none) = some v := by simpa using h
      rw [q] at h'; cases h'
    | some o =>
      have h' : ((σ[j]?).getD none) = some v := by simpa using h
      rw [q] at h'
      cases o with
      | none => cases h'
      | some u => cases h'; rfl
theorem Inv.compStart {N' r : List Str} {ix : List Nat} {x : Str} {cs : Scope} {cl : List (Str × Addr)} {fp : List Addr} {h1 : Heap} {tk : Nat} {m : Str → Option Value} (I : Inv X pins σ H s) (S : CompScope X.N X.env.scope N' ix x r cs)
    (h2 : ∀ y c, cl.lookup y = some c → X.env.cells.lookup y = some c) (h3 : ∀ y, (y, NameKind.free) ∈ cs.names → ∃ c, cl.lookup y = some c) (hf : ∀ b ∈ fp, FpOk X pins H b) (hfp : ∀ b ∈ fp, b < s.heap.objs.size)
    (hn : h1.Ns s.heap.objs.size m) (hk : ∀ b o, s.heap.get? b = some o → h1.get? b = some o) :
    Inv (compCx X N' cs cl s H fp) [] (none :: slotsAt σ ix) H { s with heap := h1, toks := tk } := by
  have ok := I.compOk (N' := N') (fp := fp) S h2 h3 hf hfp
  obtain ⟨mo, hno, hlo⟩ := id I.loc
  refine ⟨ok, rfl, I.bare, Un.kept hk, ⟨m, hn, fun i y v e1 e2 e3 => ?_⟩, fun y c e => ?_, I.hok.fresh (Nat.le_refl _), fun y c e => I.freeC y c (h2 y c e), fun p hp => absurd (show p ∈ ([] : List (Addr × Obj)) from hp) (by simp), I.hok.kept hk, ?_⟩
  · cases i with
    | zero => cases e2
    | succ i =>
      have e1' : r[i]? = some y := by
        have : N'[i + 1]? = some y := e1
        rw [S.eq] at this
        simpa using this
      obtain ⟨j, j1, j2, j3, j4⟩ := S.ixs.get e1'
      obtain ⟨j', k1, k2⟩ := slotsAt_get (σ := σ) (ix := ix) (i := i) (v := v) (by simpa using e2)
      rw [j1] at k1; cases k1
      obtain ⟨u, ru, lk⟩ := hlo j y v j2 k2 (j3.elim (fun z => .inr (.inl z)) fun z => .inr (.inr z))
      refine ⟨u, ru, ?_⟩
      obtain ⟨c, hc⟩ := h3 y (PySem.mem_of_lookup j4)
      rcases lk with ⟨k, _⟩ | ⟨k, c', e', z⟩
      · have k' : X.env.scope.names.lookup y = some .local := k
        rcases j3 with q | q <;> (rw [q] at k'; cases k')
      · rw [h2 y c hc] at e'
        cases e'
        refine .inr ⟨?_, c, hc, ?_⟩
        · exact lookup_relabel_free (env := X.env) j4
        · obtain ⟨o, ho, hd⟩ := z
          exact ⟨o, hk c o ho, hd⟩
  · obtain ⟨v, o, ho, hd⟩ := I.cell y c (h2 y c e)
    exact ⟨v, o, hk c o ho, hd⟩
  · show (none :: slotsAt σ ix).length = N'.length
    rw [S.eq, List.length_cons, List.length_cons, S.ixs.len]
    unfold slotsAt
    rw [List.length_map]

/-- the tests of a comprehension's clause -/
def PTs (X : Cx) (ifs : List Expr) (t : TT) : Prop :=
  ∀ (E : Value → Shared → Prop) (pins : List (Addr × Obj)) (s : Shared) (σ : St) (H : Hp) (Q : Bool → Hp → Prop), (∀ e s', X.xe e s' → E e s') → Inv X pins σ H s → t σ H Q →
    wpAny (model X.prog X.w) X.A (forIn ifs true fun c r => if r = true then do let ok ← isTrue c X.env (eval c X.env); pure (ForInStep.yield ok) else pure (ForInStep.yield r)) (TP X pins σ Q) E s
def tNoIf : TT := fun _ H Q => Q true H
theorem pts_nil {X : Cx} : PTs X [] tNoIf := fun _ _ _ _ H _ _ I h => wpAny_tests_nil ⟨H, I, h⟩
theorem pts_one {X : Cx} {c : Expr} {t : TT} (h : PT X c t) : PTs X [c] t := fun _ pins s σ H Q hE I q => wpAny_tests_one (wpAny_mono (h pins s σ H Q I q) (fun _ _ z => z) hE)

/-- how a comprehension goes: W by the turn, a measure, the items so far, the heap; Nx, Nn: what the element, a failed test are to reach -/
def CompGo (J : It) (ρ : St) (g : TG) (tt : TT) (te : TE) (acc : Addr) (Z : Hp → Prop) (H1 : Hp) : Prop :=
  ∃ W : Nat → Nat → List V → Hp → Prop, (∃ m, W 0 m [] (upd H1 acc (.lst []))) ∧ ∀ i m xs H, W i m xs H →
    ((J.stop i H ∧ Z H) ∨ (J.go i H ∧ ∃ (Nx : V → Hp → Prop) (Nn : Hp → Prop), (∀ y H4, Nx y H4 → H4 acc = some (.lst xs) ∧ xs.length < sizeLine ∧ ∃ m', m' < m ∧ W (i + 1) m' (xs ++ [y]) (upd H4 acc (.lst (xs ++ [y])))) ∧
      (∀ H3, Nn H3 → ∃ m', m' < m ∧ W (i + 1) m' xs H3) ∧ ∀ v0 x H', J.yld i H x H' → g x (v0 :: ρ) H' fun σ2 H2 => (∃ v, σ2 = v :: ρ) ∧ tt σ2 H2 fun b H3 => if b = true then te σ2 H3 Nx else Nn H3))

theorem comp_core {N' r : List Str} {ix : List Nat} {x : Str} {cs : Scope} {cl : List (Str × Addr)} {tg iter elt : Expr} {ifs : List Expr} {pos : Pos} {J : It} {fp : List Addr} {it : Addr} {tn : Nat → Heap → Prop} {g : TG} {tt : TT} {te : TE} {Z : Addr → Hp → Prop}
    {RR : Value → Addr → Result → Shared → Prop} {E : Value → Shared → Prop}
    (I : Inv X pins σ H s) (hc : X.calm = true) (S : CompScope X.N X.env.scope N' ix x r cs) (h2 : ∀ y c, cl.lookup y = some c → X.env.cells.lookup y = some c) (h3 : ∀ y, (y, NameKind.free) ∈ cs.names → ∃ c, cl.lookup y = some c)
    (T : Turn X.prog X.w X.K tg J fp it tn) (st : tn 0 s.heap) (hf : ∀ b ∈ fp, FpOk X pins H b)
    (hg : ∀ s3 H3, PG (compCx X N' cs cl s3 H3 fp) tg g) (ht : ∀ s3 H3, PTs (compCx X N' cs cl s3 H3 fp) ifs tt) (he : ∀ s3 H3, PE (compCx X N' cs cl s3 H3 fp) elt te)
    (go : ∀ acc, H acc = none → CompGo J (slotsAt σ ix) g tt te acc (Z acc) H)
    (fin : ∀ acc C s' H' m, Inv X pins σ H' s' → FpOk X pins H' C → s'.heap.Ns C m → Z acc H' → RR (.ref acc) C (.ok .next) s') :
    wpAny (model X.prog X.w) X.A (newList []) (fun acc s₃ => wpAny (model X.prog X.w) X.A (newFunctionEnv cs X.env.globals cl [] X.env.qual none .none (some X.env)) (fun cenv s₄ =>
      codeAny (model X.prog X.w) X.A (.compStart (.ListComp elt [⟨tg, iter, ifs, 0⟩] cs pos) 0 (.ref it) acc { cenv with scope := relabel cs X.env }) (RR acc cenv.locals) s₄) E s₃) E s := by
  refine wpAny_newObj_type (wpAny_newFunctionEnv S.hcell (by intro y hy; simp at hy) (fun h₁ hns₁ hsb₁ => ?_) S.kind)
  dsimp only at hns₁ hsb₁ ⊢
  have hfs : ∀ b ∈ fp, b < s.heap.objs.size := fun b hb => by
    obtain ⟨o, e, _⟩ := T.obj _ _ st b hb
    exact Heap.lt_size e
  have I3 : Inv X pins σ (upd H s.heap.objs.size (.lst [])) { s with heap := s.heap.push { cls := .type "list", data := .seq ([] : List Value).toArray } } := I.lnew (its := []) (t' := s.toks) .nil (Nat.zero_le _)
  have nacc : H s.heap.objs.size = none := I.fresh
  have hf3 : ∀ b ∈ fp, FpOk X pins (upd H s.heap.objs.size (.lst [])) b := fun b hb => ⟨by rw [upd_ne (Nat.ne_of_lt (hfs b hb))]; exact (hf b hb).1, (hf b hb).2⟩
  have hfs3 : ∀ b ∈ fp, b < (s.heap.push { cls := .type "list", data := .seq ([] : List Value).toArray }).objs.size := fun b hb => by
    rw [Heap.size_push]; exact Nat.lt_succ_of_lt (hfs b hb)
  generalize hs3 : ({ s with heap := s.heap.push { cls := .type "list", data := .seq ([] : List Value).toArray } } : Shared) = s3 at I3
  generalize hH3 : upd H s.heap.objs.size (.lst []) = H3 at I3 hf3
  have eh : s.heap.push { cls := .type "list", data := .seq ([] : List Value).toArray } = s3.heap := by rw [← hs3]
  rw [eh] at hns₁ hsb₁ hfs3
  have kp : ∀ b o, s3.heap.get? b = some o → h₁.get? b = some o := fun b o e => hsb₁.extBut b o (Nat.ne_of_lt (Heap.lt_size e)) (Heap.get?_push_of_some _ e)
  have I4 : Inv (compCx X N' cs cl s3 H3 fp) [] (none :: slotsAt σ ix) H3 { s3 with heap := h₁, toks := s3.toks + ([] : List (Str × Value)).length } :=
    I3.compStart S h2 h3 hf3 hfs3 hns₁ kp
  have kp2 : ∀ b o, s.heap.get? b = some o → h₁.get? b = some o := fun b o e => kp b o (by rw [← eh]; exact Heap.get?_push_of_some _ e)
  have st4 : tn 0 h₁ := T.keep _ _ _ st fun b hb o e => kp2 b o e
  obtain ⟨W, ⟨m0, w0⟩, turn⟩ := go s.heap.objs.size nacc
  rw [hH3] at w0
  have stat : ∀ {H' : Hp}, (∀ b ∈ fp, H' b = none) → ∀ b ∈ fp, FpOk (compCx X N' cs cl s3 H3 fp) [] H' b := fun hn b hb =>
    ⟨hn b hb, Nat.ne_of_lt (hfs3 b hb), fun hs => by
      rcases List.mem_cons.mp (I.stkSub b hs) with z | z
      · exact (hf b hb).2.1 z
      · exact (hf b hb).2.2.1 z, .inl hb, fun y c e => (hf b hb).2.2.2.2.1 y c (h2 y c e), fun p hp => absurd (show p ∈ ([] : List (Addr × Obj)) from hp) (by simp)⟩
  have es : s3.heap.objs.size = s.heap.objs.size + 1 := by rw [← eh, Heap.size_push]
  have loop : codeAny (model X.prog X.w) X.A (.compLoop (.ListComp elt [⟨tg, iter, ifs, 0⟩] cs pos) 0 (.ref it) (.ref s.heap.objs.size) (compCx X N' cs cl s3 H3 fp).env)
      (RR (.ref s.heap.objs.size) s3.heap.objs.size) { s3 with heap := h₁, toks := s3.toks + ([] : List (Str × Value)).length } := by
    refine compLoop_any (fun n s' => ∃ i v0 H' xs, Inv (compCx X N' cs cl s3 H3 fp) [] (v0 :: slotsAt σ ix) H' s' ∧ tn i s'.heap ∧ (∀ b ∈ fp, H' b = none) ∧ W i n xs H') ?_ m0
      ⟨0, none, H3, [], I4, st4, fun b hb => (hf3 b hb).1, w0⟩
    rintro n s5 ⟨i, v0, H5, xs, I5, st5, fr5, w5⟩
    rcases turn i n xs H5 w5 with ⟨stop, q⟩ | ⟨hgo, Nx, Nn, hNx, hNn, step⟩
    · refine thn (T.done (compCx X N' cs cl s3 H3 fp) rfl rfl rfl hc i [] s5 _ H5 _ I5 (stat fr5) st5 stop) fun r' s6 ⟨hr, I6⟩ => ?_
      subst hr
      have u : Un (frs X.stack) fp H H5 s.heap s6.heap := by
        refine Un.trans (H1 := H3) (h1 := s3.heap) ?_ I6.base
        rw [← hH3, ← eh]
        exact Un.laid (fun _ _ q => Heap.get?_push_of_some _ q) (Nat.le_refl _) nacc
      have e3 : s3.os = s.os := by rw [← hs3]
      have os6 : s6.os = s.os := I6.os.trans e3
      have J6 : Inv X pins σ H5 s6 := I.call' os6 u I6.hok I6.bare fun b hb => ⟨(hf b hb).2.2.2.1, (hf b hb).2.1, (hf b hb).2.2.2.2.1, (hf b hb).2.2.2.2.2⟩
      obtain ⟨m6, n6, _⟩ := I6.loc
      exact fin _ _ s6 H5 m6 J6 (I.fpOk (by rw [es]; exact Nat.le_succ _) I6.free) n6 q
    · refine thn (T.item (compCx X N' cs cl s3 H3 fp) rfl rfl rfl hc i [] s5 _ H5 _ I5 (stat fr5) st5 hgo) fun r' s6 ⟨u, hr, h6⟩ => ?_
      subst hr
      refine thn h6 fun _ s7 ⟨y, H7, I7, r7, y7, st7, fr7⟩ => ?_
      have I7' := I7.pinned (stat fr7) (T.obj _ _ st7)
      refine wpAny_mono (hg s3 H3 _ s7 _ H7 y u _ I7' r7 (step v0 y H7 y7)) (fun _ s8 ⟨σ8, H8, I8, ⟨v8, e8⟩, q8⟩ => ?_) fun _ _ z => z.elim
      subst e8
      have back : ∀ {s9 : Shared} {H9 : Hp} {m' : Nat} {xs' : List V}, Inv (compCx X N' cs cl s3 H3 fp) ([] ++ pinsAt fp s7.heap) (v8 :: slotsAt σ ix) H9 s9 → m' < n → W (i + 1) m' xs' H9 →
          ∃ m, m < n ∧ ∃ i v0 H' xs, Inv (compCx X N' cs cl s3 H3 fp) [] (v0 :: slotsAt σ ix) H' s9 ∧ tn i s9.heap ∧ (∀ b ∈ fp, H' b = none) ∧ W i m xs H' := fun {s9 H9 m' xs'} I9 hm w9 =>
        ⟨m', hm, i + 1, v8, H9, xs', I9.unpinned, T.keep _ _ _ st7 fun b hb o e => (I9.pin (b, o) (List.mem_append_right _ (List.mem_append_right _ (mem_pinsAt hb e)))).1, fun b hb => by
          obtain ⟨o, e, d⟩ := T.obj _ _ st7 b hb
          exact (I9.pin (b, o) (List.mem_append_right _ (List.mem_append_right _ (mem_pinsAt hb e)))).2.1, w9⟩
      refine thn (ht s3 H3 _ _ s8 _ H8 _ (fun _ _ z => z.elim) I8 q8) fun b s9 ⟨H9, I9, q9⟩ => ?_
      cases b with
      | false =>
        rw [if_neg Bool.false_ne_true] at q9 ⊢
        obtain ⟨m', hm, w9⟩ := hNn H9 q9
        exact back I9 hm w9
      | true =>
        rw [if_pos rfl] at q9 ⊢
        refine wpAny_mono (he s3 H3 _ s9 _ H9 _ I9 q9) (fun u2 s10 ⟨y2, H10, I10, r10, q10⟩ => ?_) fun _ _ z => z.elim
        obtain ⟨a10, z10, m', hm, w10⟩ := hNx y2 H10 q10
        refine wpAny_mono (mt_append (X := compCx X N' cs cl s3 H3 fp) _ s10 _ H10 (.ref s.heap.objs.size) [y2] (.ref s.heap.objs.size) [u2] (fun _ H' => H' = upd H10 s.heap.objs.size (.lst (xs ++ [y2]))) I10 rfl (.cons r10 .nil) ⟨_, xs, y2, rfl, rfl, a10, z10, rfl⟩) (fun _ s11 ⟨_, H11, I11, _, e11⟩ => ?_) fun _ _ z => z.elim
        subst e11
        exact back I11 hm w10
  subst hs3
  exact codeAny_compStart_list loop (T.self X.A 0 _ _ _ st4 loop)
end

section
variable {X : Cx} {N' r : List Str} {ix : List Nat} {x : Str} {cs : Scope} {tg iter elt : Expr} {ifs : List Expr} {pos : Pos} {wi : TI} {g : TG} {tt : TT} {te : TE}
/-- [elt for tg in iter if ..] -/
def tComp (wi : TI) (ix : List Nat) (g : TG) (tt : TT) (te : TE) : TE := fun σ H Q => wi σ H fun J H1 => ∀ acc, H1 acc = none → CompGo J (slotsAt σ ix) g tt te acc (fun H' => Q (.ref acc) H') H1
theorem CompScope.clos {sc : Scope} {N : List Str} (S : CompScope N sc N' ix x r cs) {env : Env} (he : env.scope = sc) (has : ∀ y, (env.kindOf y = some .cell ∨ env.kindOf y = some .free) → ∃ c, env.cells.lookup y = some c) :
    ∃ cl : List (Str × Addr), closureFor cs env = pure cl ∧ (∀ y c, cl.lookup y = some c → env.cells.lookup y = some c) ∧ (∀ y, (y, NameKind.free) ∈ cs.names → ∃ c, cl.lookup y = some c) :=
  closure_ok fun y hy hk => has y.1 (by
    subst he
    exact S.fr y hy hk)
theorem pe_comp (hc : X.calm = true) (S : CompScope X.N X.env.scope N' ix x r cs) (hi : PI X tg iter wi)
    (hg : ∀ cl s3 H3 fp, PG (compCx X N' cs cl s3 H3 fp) tg g) (ht : ∀ cl s3 H3 fp, PTs (compCx X N' cs cl s3 H3 fp) ifs tt) (he : ∀ cl s3 H3 fp, PE (compCx X N' cs cl s3 H3 fp) elt te)
    (hs : ∀ x, foldedSetIterable iter X.env x = pure x := by intro _; rfl) : PE X (.ListComp elt [⟨tg, iter, ifs, 0⟩] cs pos) (tComp wi ix g tt te) := by
  intro pins s σ H Q I h
  obtain ⟨cl, c1, c2, c3⟩ := S.clos rfl I.ok.has
  rw [eval_ListComp]
  refine wpAny_comprehension_free (use := none) rfl hs c1 S.kind S.hnames (thn (hi pins s σ H _ I h) fun v s1 h1 => thn h1 fun itv s2 h2 => ?_)
  obtain ⟨it, fp, tn, J, H2, e, I2, T, st2, f2, R⟩ := h2
  subst e
  refine comp_core (RR := fun acc C => compPost (model X.prog X.w) X.A X.xe none (EP X pins σ Q) acc C) I2 hc S c2 c3 T st2 f2 (fun s3 H3 => hg cl s3 H3 fp) (fun s3 H3 => ht cl s3 H3 fp) (fun s3 H3 => he cl s3 H3 fp) R ?_
  intro acc C s' H' m I' fC hn q
  refine ⟨m, hn, fun h' hb => ⟨.ref acc, H', ?_, rfl, q⟩⟩
  exact I'.turned (t' := s'.toks) (fun b o hne e => (hb.2 b hne).trans e) fC.1 fC.2.1 fC.2.2.2.1 fC.2.2.2.2.1 fC.2.2.2.2.2
end

/-! ### the forms one uses -/
section
variable {ρ : St} {g : TG} {tt : TT} {te : TE} {acc : Addr} {Z : Hp → Prop} {H1 : Hp}
/-- over a range: Pv by the turn, the items so far, the heap; nothing is left out -/
theorem comp_range {lo : Int} {n : Nat} (Pv : Nat → List V → Hp → Prop) (h0 : Pv 0 [] (upd H1 acc (.lst [])))
    (hs : ∀ i xs H, i < n → Pv i xs H → te (some (.int (lo + i)) :: ρ) H fun y H4 => H4 acc = some (.lst xs) ∧ xs.length < sizeLine ∧ Pv (i + 1) (xs ++ [y]) (upd H4 acc (.lst (xs ++ [y]))))
    (hd : ∀ xs H, Pv n xs H → Z H) : CompGo (Itr lo n) ρ (gName 0) tNoIf te acc Z H1 := by
  refine ⟨fun i m xs H => Pv i xs H ∧ i ≤ n ∧ m = n - i, ⟨n, h0, Nat.zero_le _, rfl⟩, ?_⟩
  rintro i m xs H ⟨hp, hi, rfl⟩
  by_cases hlt : i < n
  · refine .inr ⟨hlt, (fun y H4 => H4 acc = some (.lst xs) ∧ xs.length < sizeLine ∧ Pv (i + 1) (xs ++ [y]) (upd H4 acc (.lst (xs ++ [y])))), fun _ => False, fun y H4 q => ⟨q.1, q.2.1, n - (i + 1), by omega, q.2.2, hlt, rfl⟩, fun _ z => z.elim, ?_⟩
    rintro v0 x H' ⟨rfl, rfl⟩
    exact ⟨⟨_, rfl⟩, by simp only [tNoIf, if_true]; exact hs i xs H' hlt hp⟩
  · have : i = n := by omega
    subst this
    exact .inl ⟨Nat.le_refl _, hd xs H hp⟩
/-- over a tuple that stays -/
theorem comp_tup {K : PySem.W.Frag} {a : Addr} {zs : List V} (Pv : Nat → List V → Hp → Prop) (h0 : Pv 0 [] (upd H1 acc (.lst []))) (hl : ∀ i xs H, i ≤ zs.length → Pv i xs H → SqT K H a zs)
    (hs : ∀ i z xs H, zs[i]? = some z → Pv i xs H → te (some z :: ρ) H fun y H4 => H4 acc = some (.lst xs) ∧ xs.length < sizeLine ∧ Pv (i + 1) (xs ++ [y]) (upd H4 acc (.lst (xs ++ [y]))))
    (hd : ∀ xs H, Pv zs.length xs H → Z H) : CompGo (Itt K a) ρ (gName 0) tNoIf te acc Z H1 := by
  refine ⟨fun i m xs H => Pv i xs H ∧ i ≤ zs.length ∧ m = zs.length - i, ⟨zs.length, h0, Nat.zero_le _, rfl⟩, ?_⟩
  rintro i m xs H ⟨hp, hi, rfl⟩
  have sq := hl i xs H hi hp
  by_cases hlt : i < zs.length
  · refine .inr ⟨⟨zs, zs[i], sq, List.getElem?_eq_getElem hlt⟩, (fun y H4 => H4 acc = some (.lst xs) ∧ xs.length < sizeLine ∧ Pv (i + 1) (xs ++ [y]) (upd H4 acc (.lst (xs ++ [y])))), fun _ => False, fun y H4 q => ⟨q.1, q.2.1, zs.length - (i + 1), by omega, q.2.2, hlt, rfl⟩, fun _ z => z.elim, ?_⟩
    rintro v0 x H' ⟨rfl, hx⟩
    exact ⟨⟨_, rfl⟩, by simp only [tNoIf, if_true]; exact hs i x xs H' (hx zs sq) hp⟩
  · have : i = zs.length := by omega
    subst this
    exact .inl ⟨⟨zs, sq, Nat.le_refl _⟩, hd xs H hp⟩
/-- over a list that stays -/
theorem comp_list {K : PySem.W.Frag} {a : Addr} {zs : List V} (Pv : Nat → List V → Hp → Prop) (h0 : Pv 0 [] (upd H1 acc (.lst []))) (hl : ∀ i xs H, i ≤ zs.length → Pv i xs H → SqL K H a zs)
    (hs : ∀ i z xs H, zs[i]? = some z → Pv i xs H → te (some z :: ρ) H fun y H4 => H4 acc = some (.lst xs) ∧ xs.length < sizeLine ∧ Pv (i + 1) (xs ++ [y]) (upd H4 acc (.lst (xs ++ [y]))))
    (hd : ∀ xs H, Pv zs.length xs H → Z H) : CompGo (Itl K a) ρ (gName 0) tNoIf te acc Z H1 := by
  refine ⟨fun i m xs H => Pv i xs H ∧ i ≤ zs.length ∧ m = zs.length - i, ⟨zs.length, h0, Nat.zero_le _, rfl⟩, ?_⟩
  rintro i m xs H ⟨hp, hi, rfl⟩
  have sq := hl i xs H hi hp
  by_cases hlt : i < zs.length
  · refine .inr ⟨⟨zs, zs[i], sq, List.getElem?_eq_getElem hlt⟩, (fun y H4 => H4 acc = some (.lst xs) ∧ xs.length < sizeLine ∧ Pv (i + 1) (xs ++ [y]) (upd H4 acc (.lst (xs ++ [y])))), fun _ => False, fun y H4 q => ⟨q.1, q.2.1, zs.length - (i + 1), by omega, q.2.2, hlt, rfl⟩, fun _ z => z.elim, ?_⟩
    rintro v0 x H' ⟨rfl, hx⟩
    exact ⟨⟨_, rfl⟩, by simp only [tNoIf, if_true]; exact hs i x xs H' (hx zs sq) hp⟩
  · have : i = zs.length := by omega
    subst this
    exact .inl ⟨⟨zs, sq, Nat.le_refl _⟩, hd xs H hp⟩
end
end L2
/-! EXTENSION B of the hand layer: great ints, isinstance, == of data, all, max, sum of a list, bit_length. -/
namespace L2
open PySem PySem.Spec PyProof.Rows
section
variable {X : Cx}
/-! ### great ints -/
theorem intBits_le {k : Int} {n : Nat} (h : k.natAbs < 2 ^ n) : Builtin.Int.intBits k ≤ n := by
  unfold Builtin.Int.intBits
  split
  · exact Nat.zero_le _
  · rename_i h0
    have hk : k.natAbs ≠ 0 := by
      intro z
      apply h0
      have : k = 0 := Int.natAbs_eq_zero.mp z
      subst this
      rfl
    have : k.natAbs.log2 < n := (Nat.log2_lt hk).mpr h
    omega
/-- below so many bits products are made -/
def Fit (i : Int) : Prop := i.natAbs < 2 ^ 8000
theorem Fit.mul {i j : Int} (hi : Fit i) (hj : Fit j) : IntMulOk i j := by
  have h1 := intBits_le hi
  have h2 := intBits_le hj
  unfold IntMulOk
  intro h
  have h3 := (Bool.and_eq_true_iff.mp h).2
  unfold Builtin.Int.intTooBig at h3
  have h4 := of_decide_eq_true h3
  have h5 : (bitsLine : Int) = 134217728 := by decide
  omega
theorem op_mulB : OpR X (binaryOp .Mult) (rI (fun i j => Fit i ∧ Fit j) fun i j => .int (i * j)) := opI fun _ _ _ _ _ _ _ hc q => mul_int q (hc.1.mul hc.2)
theorem Fit.log {i : Int} (h : Fit i) : i.natAbs.log2 < 9000 := by
  by_cases h0 : i.natAbs = 0
  · rw [h0]; decide +kernel
  · have := (Nat.log2_lt h0).mpr h
    omega
theorem op_fdivB : OpR X (binaryOp .FloorDiv) (rI (fun _ j => 0 < j ∧ Fit j) fun i j => .int (i / j)) := opI fun i j _ _ _ _ _ hc q => by
  have h1 : (0 : Int) < j := hc.1
  exact floordiv_int (by omega) (by rw [Int.fdiv_eq_ediv_of_nonneg i (by omega)]; exact q) (.inl (PyProof.noPylong_of_log2 hc.2.log))
theorem Fit.of {i : Int} {n : Nat} (h : i.natAbs < 2 ^ n) (hn : n ≤ 8000 := by decide) : Fit i := Nat.lt_of_lt_of_le h (Nat.pow_le_pow_right (by decide) hn)

/-! ### isinstance(x, T) -/
theorem call_isinst : CallR X (.builtin "isinstance") (fun xs H Q => ∃ x c t b, xs = [x, .ty c] ∧ TyOf X.K H x t ∧ PySem.W.kitOne X.K t (.type c) = some b ∧ Q (.bl b) H) := by
  intro pins s σ H xs us Q I r h
  obtain ⟨x, c, t, b, rfl, ty, e, q⟩ := h
  obtain ⟨u, w', rfl, r1, r2⟩ := vals2 r
  cases r2
  exact isinst_ok I r1 ty e fun tk => ⟨.bl b, H, I.tok tk, rfl, q⟩
/-! ### data: lists and tuples of scalars and of one another -/
mutual
inductive Rds (K : PySem.W.Frag) (H : Hp) : V → PyData → Prop
  | non : Rds K H .non .none
  | bl (b : Bool) : Rds K H (.bl b) (.bool b)
  | int (i : Int) : Rds K H (.int i) (.int i)
  | str (x : Str) : Rds K H (.str x) (.str x)
  | lst {a : Addr} {xs : List V} {ds : List PyData} (h : SqL K H a xs) (t : RdsAll K H xs ds) : Rds K H (.ref a) (.list ds)
  | tup {a : Addr} {xs : List V} {ds : List PyData} (h : SqT K H a xs) (t : RdsAll K H xs ds) : Rds K H (.ref a) (.tuple ds)
inductive RdsAll (K : PySem.W.Frag) (H : Hp) : List V → List PyData → Prop
  | nil : RdsAll K H [] []
  | cons {v : V} {vs : List V} {d : PyData} {ds : List PyData} (h : Rds K H v d) (t : RdsAll K H vs ds) : RdsAll K H (v :: vs) (d :: ds)
end
mutual
theorem Rds.reads {pins : List (Addr × Obj)} {σ : St} {H : Hp} {s : Shared} (I : Inv X pins σ H s) : ∀ {x : V} {d : PyData} {u : Value}, Rds X.K H x d → RelV x u → ∃ as, Reads s.heap u d as
  | _, _, _, .non, r => by cases r; exact ⟨_, .none⟩
  | _, _, _, .bl b, r => by cases r; exact ⟨_, .bool b⟩
  | _, _, _, .int i, r => by obtain ⟨t, rfl⟩ := r; exact ⟨_, .int i t⟩
  | _, _, _, .str x, r => by obtain ⟨t, rfl⟩ := r; exact ⟨_, .str x t⟩
  | _, _, _, .lst h t, r => by
    cases r
    obtain ⟨its, rv, pl, _⟩ := I.list h
    obtain ⟨o, ho, hc, n, hd⟩ := pl.isList
    obtain ⟨as, q⟩ := RdsAll.reads I t rv
    exact ⟨_, .list ho hc hd q⟩
  | _, _, _, .tup h t, r => by
    cases r
    obtain ⟨its, rv, pl, _⟩ := I.tuple h
    obtain ⟨o, ho, hc, n, hd⟩ := pl
    obtain ⟨as, q⟩ := RdsAll.reads I t rv
    exact ⟨_, .tuple ho hc hd q⟩
theorem RdsAll.reads {pins : List (Addr × Obj)} {σ : St} {H : Hp} {s : Shared} (I : Inv X pins σ H s) : ∀ {xs : List V} {ds : List PyData} {us : List Value}, RdsAll X.K H xs ds → Vals xs us → ∃ as, ReadsAll s.heap us ds as
  | _, _, _, .nil, r => by cases r; exact ⟨_, .nil⟩
  | _, _, _, .cons h t, r => by
    cases r with
    | cons r1 r2 =>
      obtain ⟨as, q1⟩ := Rds.reads I h r1
      obtain ⟨bs, q2⟩ := RdsAll.reads I t r2
      exact ⟨_, .cons q1 q2⟩
end
theorem RdsAll.ints {K : PySem.W.Frag} {H : Hp} : ∀ ns : List Int, RdsAll K H (ns.map V.int) (ns.map PyData.int)
  | [] => .nil
  | n :: r => .cons (.int n) (RdsAll.ints r)
def rEqD (K : PySem.W.Frag) (neg : Bool) : R2 := fun x y H Q => ∃ dx dy, Rds K H x dx ∧ Rds K H y dy ∧ SeqAt.shaped dx = true ∧ SeqAt.shaped dy = true ∧ Q (.bl (if neg then !PyData.eqv dx dy else PyData.eqv dx dy)) H
theorem op_eqD (hu : X.A.units + 64 < cLine) : OpR X (compareOp .Eq) (rEqD X.K false) := by
  intro pins s σ H x y v u Q I rx ry ⟨dx, dy, hx, hy, sx, sy, q⟩
  obtain ⟨as, ra⟩ := hx.reads I rx
  obtain ⟨bs, rb⟩ := hy.reads I ry
  exact eq_dataH ra rb sx sy hu ⟨.bl _, H, I, rfl, q⟩
theorem op_neD (hu : X.A.units + 64 < cLine) : OpR X (compareOp .NotEq) (rEqD X.K true) := by
  intro pins s σ H x y v u Q I rx ry ⟨dx, dy, hx, hy, sx, sy, q⟩
  obtain ⟨as, ra⟩ := hx.reads I rx
  obtain ⟨bs, rb⟩ := hy.reads I ry
  exact ne_dataH ra rb sx sy hu ⟨.bl _, H, I, rfl, q⟩

/-! ### all, max, sum of a list -/
theorem call_all_bools (hc : X.calm = true) : CallR X (.builtin "all") (fun xs H Q => ∃ (a : Addr) (bs : List Bool), xs = [.ref a] ∧ SqL X.K H a (bs.map V.bl) ∧ Q (.bl (bs.all id)) H) := by
  intro pins s σ H xs us Q I r h
  obtain ⟨a, bs, rfl, hq, q⟩ := h
  obtain ⟨u, rfl, rx⟩ := vals1 r
  cases rx
  obtain ⟨its, rv, pl, hz⟩ := I.list hq
  have hl := pl.isList
  have hlt : a < s.heap.objs.size := by obtain ⟨_, e, _⟩ := hl; exact Heap.lt_size e
  refine call_all_walk (wpAny_pyIter_list hl ?_)
  refine ⟨_, [s.heap.objs.size, a], [s.heap.objs.size], _, _, _, fun i => (bs[i]?).getD true, rfl, Walks.list (A := X.A.in1) (I.ok.hd hc) _ a (Nat.ne_of_lt hlt) its.toArray, ⟨⟨_, Heap.get?_push_size _ rfl, rfl, rfl⟩, hl.push _⟩, ?_, ?_⟩
  · intro i v s' Q' E' hP hQ
    have hP' : its[i]? = some v := by simpa using hP
    have hb : ∃ b, bs[i]? = some b ∧ v = Value.bool b := by
      cases e : bs[i]? with
      | none =>
        have l1 : its.length = (bs.map V.bl).length := rv.length.symm
        rw [List.length_map] at l1
        have l2 := List.getElem?_eq_none_iff.mp e
        have l3 := (List.getElem?_eq_some_iff.mp hP').1
        omega
      | some b =>
        obtain ⟨u, e1, e2⟩ := rv.get (i := i) (x := V.bl b) (by rw [List.getElem?_map, e]; rfl)
        rw [e1] at hP'
        cases hP'
        exact ⟨b, rfl, e2⟩
    obtain ⟨b, eb, rfl⟩ := hb
    have hQ2 : Q' ((bs[i]?).getD true) s' := hQ
    rw [eb] at hQ2
    exact wpAny_truthy_bool hQ2
  · intro h' tk hk
    have kp : ∀ b o, s.heap.get? b = some o → h'.get? b = some o := fun b o e => hk b o (fun hm => by
      rcases List.mem_cons.mp hm with e1 | hm
      · exact absurd (e1 ▸ Heap.lt_size e) (Nat.lt_irrefl _)
      · cases hm) (Heap.get?_push_of_some _ e)
    refine ⟨.bl _, H, I.kept kp, rfl, ?_⟩
    have l1 : its.length = bs.length := by rw [← rv.length, List.length_map]
    have ea : (List.range its.toArray.size).all (fun i => (bs[i]?).getD true) = bs.all id := by
      rw [List.size_toArray, l1, Bool.eq_iff_iff, List.all_eq_true, List.all_eq_true]
      constructor
      · intro h b hb
        obtain ⟨i, hi, e⟩ := List.mem_iff_getElem.mp hb
        have z := h i (List.mem_range.mpr hi)
        rw [List.getElem?_eq_getElem hi, e] at z
        exact z
      · intro h i hi
        have hi' := List.mem_range.mp hi
        rw [List.getElem?_eq_getElem hi']
        exact h _ (List.getElem_mem hi')
    rw [ea]
    exact q
end
end L2
/-! EXTENSION C of the hand layer: exceptions of own classes, raised, passed on, caught. -/
namespace L2
open PySem PySem.Spec PyProof.Rows

/-- an exception behind a call: of the own class at C; B: all that stays while it flies -/
def XOk (P : Program) (w : World) : CXT := fun outer H s E e s' => ∃ (ea C : Addr) (a0 : Value) (H' : Hp) (B : Heap), e = .ref ea ∧ Heap.FlyingW B outer ea (.ref C) a0 s'.heap ∧ s'.os = s.os ∧ AllBare s'.gens ∧
  Un (frs outer) [] H H' s.heap s'.heap ∧ HOk P w H' B ∧ (∀ b o, s.heap.get? b = some o → H b = none → b ∉ frs outer → B.get? b = some o) ∧ (∀ b o, s.heap.get? b = some o → b ∉ frs outer → ∃ o', B.get? b = some o') ∧ E (.ref C) none H'

/-- a def's own frame stands on top -/
structure Top1 (X : Cx) : Prop where
  stk : X.stack = X.env :: X.outer
  frm : X.env.frame = some X.env.locals
  ex : X.ex = []

section
variable {X : Cx} {pins : List (Addr × Obj)} {σ : St} {H : Hp} {s : Shared}
theorem Top1.mem (T : Top1 X) {b : Addr} : b ∈ frs X.stack ↔ b = X.env.locals ∨ b ∈ X.fs := by
  rw [T.stk]
  unfold frs
  rw [List.filterMap_cons, T.frm]
  exact List.mem_cons
/-! ### raise -/
/-- what the text's top must have written of an own exception class -/
structure Exc (K : PySem.W.Frag) (C : Addr) (B newId initId : String) (bmB : List Value) : Prop where
  at_ : PySem.W.excIn K C bmB newId = true
  base : ExcBaseFacts B newId initId bmB
/-! ### expressions and statements that may raise -/
def XP (X : Cx) (pins : List (Addr × Obj)) (σ : St) (E : XK) (ex : Value) (s' : Shared) : Prop := ∃ H1 s1, Inv X pins σ H1 s1 ∧ XOk X.prog X.w X.stack H1 s1 E ex s'
abbrev TX := St → Hp → VK → XK → Prop
def PX (X : Cx) (e : Expr) (t : TX) : Prop :=
  ∀ (pins : List (Addr × Obj)) (s : Shared) (σ : St) (H : Hp) (Q : VK) (E : XK), Inv X pins σ H s → t σ H Q E → wpAny (model X.prog X.w) X.A (eval e X.env) (EP X pins σ Q) (XP X pins σ E) s
abbrev TSX := Ends → (St → XK) → St → Hp → Prop
def PSX (X : Cx) (st : List Stmt) (t : TSX) : Prop :=
  ∀ (pins : List (Addr × Obj)) (s : Shared) (σ : St) (H : Hp) (D : Ends) (E : St → XK), Inv X pins σ H s → t D E σ H → wpAny (model X.prog X.w) X.A (execs st X.env) (SP X pins D) (fun ex s' => ∃ σ1, XP X pins σ1 (E σ1) ex s') s
/-! ### try .. except C: .. -/
def Cx.caught (X : Cx) (e : Value) : Cx := { X with A := X.A.mark (some e), calm := false, xe := fun _ _ => False }
theorem Inv.caught (I : Inv X pins σ H s) (e : Value) (hfr : (X.A.mark (some e)).frames = X.A.frames := by rfl) : Inv (X.caught e) pins σ H s :=
  ⟨⟨I.ok.mod, I.ok.kind, I.ok.glob, I.ok.blt, I.ok.above, I.ok.inj, I.ok.has, I.ok.cab, (fun z => nomatch z), hfr.trans I.ok.frames, I.ok.stk, I.ok.exf, I.ok.bs, I.ok.bsz, I.ok.noex, I.ok.exfs, I.ok.funs, I.ok.frf⟩, I.os, I.bare, I.base, I.loc, I.cell, I.free, I.freeC, I.pin, I.hok, I.len⟩
end

/-! ### a def that raises -/
section
variable {P : Program} {w : World} {K : PySem.W.Frag} {mg : Str → Option Value} {base : Heap}
abbrev cxX (P : Program) (w : World) (K : PySem.W.Frag) (mg : Str → Option Value) (base : Heap) (N : List Str) (qual : Str) (scope : Scope) (f : Addr) (cd : Value) (A : Around) (outer : List Env) (s : Shared) (H : Hp) (E : XK) : Cx := cxOf (XOk P w) P w K mg base N qual scope f cd A outer s H E
/-- a def of the text (defaults dV), that may raise -/
structure FunD (K : PySem.W.Frag) (x qual : Str) (st : Stmt) (f : Addr) (fd : FuncData) (dV : Value) : Prop where
  ex : ∃ (oc : Value) (od : Option Addr) (kV doc pm : Value) (an : Option Addr) (cdv ct : Value) (osl : Array (Option Value)),
    fd = PySem.W.fnOf x qual (defArgs st) (defBody st) (defScope st) dV kV doc pm an cdv ct ∧ K.lookup f = some ⟨oc, od, .func fd, osl⟩ ∧ PySem.W.codeIn K cdv qual = true
  kp : PySem.W.keepIn K (.ref f) = true
theorem FunD.ok {x qual : Str} {st : Stmt} {f : Addr} {fd : FuncData} {dV : Value} {N ps : List Str} {k : Nat} {sp : Sp} (F : FunD K x qual st f fd dV) (S : FnScope N ps (defScope st)) (len : ∀ vs H Q E, sp vs H Q E → vs.length = ps.length)
    (hbody : ∀ (cdv : Value) (A : Around) (outer : List Env) (s : Shared) (H : Hp) (vs : List V) (Q : VK) (E : XK), Room k (A.deeper (envOfC qual (defScope st) s.heap.objs.size f cdv)) → sp vs H Q E →
      ∃ t, PSs (cxOf CX0 P w K mg base N qual (defScope st) f cdv A outer s H E).nox (defBody st) t ∧ t { nx := fun _ H' => Q .non H', rt := Q } (start N vs) H) : FnOk P w K mg base CX0 (k + 1) f fd ps sp := by
  obtain ⟨oc, od, kV, doc, pm, an, cdv, ct, osl, rfl, lk, hcd⟩ := F.ex
  refine fn_of lk hcd S len fun A outer s H vs Q E hr hsp => ?_
  obtain ⟨t, h, q⟩ := hbody cdv A outer s H vs Q E hr hsp
  exact ⟨t, h.nox, q⟩
theorem fund_mk {x qual : Str} {st : Stmt} {f : Addr} {oc dV : Value} {od an : Option Addr} {osl : Array (Option Value)} {kV doc pm cdv ct : Value} (l : K.lookup f = some ⟨oc, od, .func (PySem.W.fnOf x qual (defArgs st) (defBody st) (defScope st) dV kV doc pm an cdv ct), osl⟩)
    (c : PySem.W.codeIn K cdv qual = true) (k : PySem.W.keepIn K (.ref f) = true) : FunD K x qual st f (PySem.W.fnOf x qual (defArgs st) (defBody st) (defScope st) dV kV doc pm an cdv ct) dV := ⟨⟨oc, od, kV, doc, pm, an, cdv, ct, osl, rfl, l, c⟩, k⟩
end
end L2
/-! EXTENSION D of the hand layer: defs by their names; rules by kinds joined; a reading by simp. -/
namespace L2
open PySem PySem.Spec PyProof.Rows
/-- a def of the top, as it stands, with the defaults dvs that fill up -/
def At (K : PySem.W.Frag) (mg : Str → Option Value) (x : Str) (st : Stmt) (ps : List Str) (dvs : List V) : Prop :=
  ∃ f fd dV ds, FunD K x x st f fd dV ∧ mg x = some (.ref f) ∧ Binds K fd ps ds ∧ Vals dvs ds
/-- .. and its promise -/
def DefOk (P : Program) (w : World) (K : PySem.W.Frag) (mg : Str → Option Value) (base : Heap) (CX : CXT) (k : Nat) (x : Str) (ps : List Str) (dvs : List V) (sp : Sp) : Prop :=
  ∃ f fd ds, FnOk P w K mg base CX k f fd ps sp ∧ mg x = some (.ref f) ∧ PySem.W.keepIn K (.ref f) = true ∧ Binds K fd ps ds ∧ Vals dvs ds
section
variable {P : Program} {w : World} {K : PySem.W.Frag} {mg : Str → Option Value} {base : Heap}
theorem At.ok {x : Str} {st : Stmt} {N ps : List Str} {dvs : List V} {k : Nat} {sp : Sp} (F : At K mg x st ps dvs) (S : FnScope N ps (defScope st)) (len : ∀ vs H Q E, sp vs H Q E → vs.length = ps.length)
    (hbody : ∀ (f : Addr) (cdv : Value) (A : Around) (outer : List Env) (s : Shared) (H : Hp) (vs : List V) (Q : VK) (E : XK), Room k (A.deeper (envOfC x (defScope st) s.heap.objs.size f cdv)) → sp vs H Q E →
      ∃ t, PSs (cxOf CX0 P w K mg base N x (defScope st) f cdv A outer s H E).nox (defBody st) t ∧ t { nx := fun _ H' => Q .non H', rt := Q } (start N vs) H) : DefOk P w K mg base CX0 (k + 1) x ps dvs sp := by
  obtain ⟨f, fd, dV, ds, F1, hm, hb, hd⟩ := F
  exact ⟨f, fd, ds, F1.ok S len (hbody f), hm, F1.kp, hb, hd⟩
end
section
variable {X : Cx} {CX : CXT} {k : Nat} {ps : List Str} {sp : Sp} {dvs : List V} {E : XK} {x : Str} {p pos : Pos} {e : Expr} {es : List Expr} {t : TA}
theorem pe_callD (D : DefOk X.prog X.w X.K X.mg X.base CX k x ps dvs sp) (hr : Room k X.A) (hg : Gl X x) (hx : Passes CX X E) (ha : PA X (e :: es) t) (hdb : (x == ("__debug__" : Str)) = false := by decide)
    (he : starEach (e :: es) X.env = (false, eval e X.env) :: starEach es X.env := by rfl) (hpl : (backTo pos (starEach es X.env)).any (·.1) = false := by rfl) : PE X (.Call (.Name x p) (e :: es) [] pos) (tCall sp dvs E t) := by
  obtain ⟨f, fd, ds, F, hm, hk, hb, hd⟩ := D
  exact pe_call F hr hg hm hk hb hd hx ha hdb he hpl
/-! ### operations by kinds joined -/
theorem ix_lt : IxR X (fun x y H Q => rIxL X.K x y H Q ∨ rIxT X.K x y H Q) := ix_list.or ix_tup
/-! ### bit_length -/
theorem mt_bits : MtR X "int.bit_length" (fun x xs H Q => ∃ i, x = .int i ∧ xs = [] ∧ Q (.int (Builtin.Int.intBits i : Nat)) H) := by
  intro pins s σ H x xs v us Q I rx rv h
  obtain ⟨i, rfl, rfl, q⟩ := h
  obtain ⟨t, rfl⟩ := rx
  cases rv
  refine wpAny_call (codeAny_call_builtin F.slot_int_bit_length.plain F.entry_int_bit_length (F.slot_int_bit_length.check _ _ _ _ _ _ _ _ (typeIs_int s i t) (F.args_int_bit_length_1 _) (AutoIntG2.int_bit_length_int_0 i t _ _ _ (wants _ _) s ?_)))
  exact ⟨.int _, H, I.tok _, ⟨_, rfl⟩, q⟩
end
end L2
namespace L2
open PySem PySem.Spec PyProof.Rows
theorem un64 {k : Nat} {A : Around} (hr : Room k A) : A.units + 64 < cLine := hr.units
theorem Same.tup {K : PySem.W.Frag} {H H' : Hp} {a : Addr} {xs : List V} (e : Same H H') (h : SqT K H a xs) : SqT K H' a xs := by
  rcases h with (h | ⟨o, h⟩) | h
  · exact .inl (.inl (e _ _ h))
  · exact .inl (.inr ⟨o, e _ _ h⟩)
  · exact .inr h
theorem Same.new {H : Hp} {p : Addr} (h : H p = none) (o : HO) : Same H (upd H p o) := fun b u q => by rw [upd_ne (ne_of_none q h)]; exact q
end L2
namespace L2
open PySem PySem.Spec PyProof.Rows
theorem at_mk {K : PySem.W.Frag} {h : Heap} {mg : Str → Option Value} {x : Str} {st : Stmt} {ps : List Str} {f : Addr} {oc kV doc pm cdv ct : Value} {od an : Option Addr} {osl : Array (Option Value)} (X : K.In h) (G : h.Ns mainGlobals mg)
    (hb : ∀ (kV doc pm : Value) (an : Option Addr) (cdv ct : Value) (us : List Value), us.length = ps.length → bindArgs (PySem.W.fnOf x x (defArgs st) (defBody st) (defScope st) .none kV doc pm an cdv ct) ⟨us, []⟩ = pure (ps.zip us))
    (a : PySem.W.nsIn K mainGlobals x = some (some (.ref f))) (l : K.lookup f = some ⟨oc, od, .func (PySem.W.fnOf x x (defArgs st) (defBody st) (defScope st) .none kV doc pm an cdv ct), osl⟩) (c : PySem.W.codeIn K cdv x = true) (k : PySem.W.keepIn K (.ref f) = true) :
    At K mg x st ps [] := ⟨f, _, .none, [], fund_mk l c k, PySem.W.mg_of X G a, .all (hb kV doc pm an cdv ct), .nil⟩
theorem at_mkD {K : PySem.W.Frag} {h : Heap} {mg : Str → Option Value} {x : Str} {st : Stmt} {ps : List Str} {f D : Addr} {oc kV doc pm cdv ct : Value} {od an : Option Addr} {osl : Array (Option Value)} {oD : Obj} {items : Array Value} {n : Nat} {dvs : List V} {ds : List Value} (X : K.In h) (G : h.Ns mainGlobals mg)
    (hb : ∀ (kV doc pm : Value) (an : Option Addr) (cdv ct : Value) (us : List Value), (us ++ ds).length = ps.length → ∃ kk, bindArgs (PySem.W.fnOf x x (defArgs st) (defBody st) (defScope st) (.ref D) kV doc pm an cdv ct) ⟨us, []⟩ = (seqItems? (.ref D) >>= kk) ∧ kk (some items) = pure (ps.zip (us ++ ds)))
    (a : PySem.W.nsIn K mainGlobals x = some (some (.ref f))) (l : K.lookup f = some ⟨oc, od, .func (PySem.W.fnOf x x (defArgs st) (defBody st) (defScope st) (.ref D) kV doc pm an cdv ct), osl⟩) (c : PySem.W.codeIn K cdv x = true) (k : PySem.W.keepIn K (.ref f) = true)
    (lD : K.lookup D = some oD) (hD : oD.data = .seq items n) (hv : Vals dvs ds) : At K mg x st ps dvs :=
  ⟨f, _, .ref D, ds, fund_mk l c k, PySem.W.mg_of X G a, fun s us KX hl => by
    obtain ⟨kk, h1, h2⟩ := hb kV doc pm an cdv ct us hl
    exact BindsTo.of_defaults rfl (KX _ _ lD) hD h1 h2, hv⟩
end L2
namespace L2
open PySem PySem.Spec PyProof.Rows
section
variable {X : Cx} {st : Stmt} {rest : List Stmt} {t u : TS}
/-- a statement, what holds behind it, the rest -/
def tCut (M : St → Hp → Prop) (t u : TS) : TS := fun D σ H => t { D with nx := M } σ H ∧ ∀ σ' H', M σ' H' → u D σ' H'
theorem pss_cut (M : St → Hp → Prop) (h1 : PS X st t) (h2 : PSs X rest u) : PSs X (st :: rest) (tCut M t u) := by
  intro pins s σ H D I h
  refine wpAny_execs_cons (thn (h1 pins s σ H { D with nx := M } I h.1) fun f s1 q => ?_)
  cases f with
  | next =>
    obtain ⟨σ', H', I', q⟩ := q
    exact h2 pins s1 σ' H' D I' (h.2 σ' H' q)
  | ret v => exact q
  | brk => exact q
  | cont => exact q
end
/-- a number below 2 to the n-th either way -/
def Bd (n : Nat) (i : Int) : Prop := i.natAbs < 2 ^ n
theorem Bd.mul {n m : Nat} {i j : Int} (hi : Bd n i) (hj : Bd m j) : Bd (n + m) (i * j) := by
  unfold Bd at *
  rw [Int.natAbs_mul, Nat.pow_add]
  exact Nat.mul_lt_mul_of_lt_of_le hi (Nat.le_of_lt hj) (Nat.two_pow_pos m)
theorem Bd.mono {n m : Nat} {i : Int} (hi : Bd n i) (h : n ≤ m := by decide) : Bd m i := Nat.lt_of_lt_of_le hi (Nat.pow_le_pow_right (by decide) h)
theorem Bd.add {n : Nat} {i j : Int} (hi : Bd n i) (hj : Bd n j) : Bd (n + 1) (i + j) := by
  unfold Bd at *
  rw [Nat.pow_succ]
  have := Int.natAbs_add_le i j
  omega
theorem Bd.sub {n : Nat} {i j : Int} (hi : Bd n i) (hj : Bd n j) : Bd (n + 1) (i - j) := by
  unfold Bd at *
  rw [Nat.pow_succ]
  have := Int.natAbs_sub_le i j
  omega
theorem Bd.neg {n : Nat} {i : Int} (hi : Bd n i) : Bd n (-i) := by unfold Bd at *; rw [Int.natAbs_neg]; exact hi
theorem Bd.fit {n : Nat} {i : Int} (hi : Bd n i) (h : n ≤ 8000 := by decide) : Fit i := Nat.lt_of_lt_of_le hi (Nat.pow_le_pow_right (by decide) h)
theorem Bd.of {i : Int} (h1 : -1606938044258990275541962092341162602522202993782792835301376 < i) (h2 : i < 1606938044258990275541962092341162602522202993782792835301376) : Bd 200 i := by
  unfold Bd
  have e : (2 ^ 200 : Nat) = 1606938044258990275541962092341162602522202993782792835301376 := by decide
  rw [e]
  omega
theorem Fit.o {i : Int} (h1 : -1606938044258990275541962092341162602522202993782792835301376 < i) (h2 : i < 1606938044258990275541962092341162602522202993782792835301376) : Fit i := (Bd.of h1 h2).fit
end L2
/-! EXTENSION E: calls with keywords that may raise. -/
namespace L2
open PySem PySem.Spec PyProof.Rows
/-- n arguments by place, m by name -/
def gk {α : Type} (n m : Nat) (us ws : List α) : List α := if us.length = n ∧ ws.length = m then us ++ ws else []
def AtK (K : PySem.W.Frag) (mg : Str → Option Value) (x : Str) (st : Stmt) (ps ks : List Str) (n m : Nat) : Prop :=
  ∃ f fd dV, FunD K x x st f fd dV ∧ mg x = some (.ref f) ∧ KBinds K fd ps ks (gk n m) (gk n m)
def DefOkK (P : Program) (w : World) (K : PySem.W.Frag) (mg : Str → Option Value) (base : Heap) (CX : CXT) (k : Nat) (x : Str) (ps ks : List Str) (n m : Nat) (sp : Sp) : Prop :=
  ∃ f fd, FnOk P w K mg base CX k f fd ps sp ∧ mg x = some (.ref f) ∧ PySem.W.keepIn K (.ref f) = true ∧ KBinds K fd ps ks (gk n m) (gk n m)
section
variable {P : Program} {w : World} {K : PySem.W.Frag} {mg : Str → Option Value} {base : Heap}
end
section
variable {X : Cx} {k n m : Nat} {ps ks : List Str} {sp : Sp} {x : Str} {p pos : Pos} {e : Expr} {es : List Expr} {kws : List Keyword} {t tk : TA}
end
end L2
namespace L2
open PySem PySem.Spec PyProof.Rows
theorem ix_tupK {X : Cx} {K : PySem.W.Frag} (h : X.K = K) : IxR X (rIxT K) := h ▸ ix_tup
end L2
namespace L2
open PySem PySem.Spec PyProof.Rows
end L2
/-! EXTENSION F: readings folded. -/
namespace L2
open PySem
theorem ixT {K : PySem.W.Frag} {H : Hp} {r : Addr} {xs : List V} {i : Int} {v : V} {Q : VK} (k : SqT K H r xs) (e : atI xs i = some v) (q : Q v H) : rIxT K (.ref r) (.int i) H Q := ⟨r, xs, i, v, rfl, rfl, k, e, q⟩
theorem ixL {K : PySem.W.Frag} {H : Hp} {r : Addr} {xs : List V} {i : Int} {v : V} {Q : VK} (k : SqL K H r xs) (e : atI xs i = some v) (q : Q v H) : rIxL K (.ref r) (.int i) H Q := ⟨r, xs, i, v, rfl, rfl, k, e, q⟩
/-- the turns of a for -/
def ForG (J : It) (g : TG) (tb : TS) (D : Ends) (σ : St) (H1 : Hp) : Prop := ∃ W : Nat → Nat → St → Hp → Prop, (∃ m, W 0 m σ H1) ∧ ∀ i m σ H, W i m σ H →
  (J.stop i H ∧ D.nx σ H) ∨ (J.go i H ∧ ∃ N : St → Hp → Prop, (∀ σ' H', N σ' H' → ∃ m', m' < m ∧ W (i + 1) m' σ' H') ∧ ∀ x H', J.yld i H x H' → g x σ H' fun σ2 H2 => tb { D with nx := N, ct := N, bk := D.nx } σ2 H2)
section
variable {K : PySem.W.Frag} {ta : TA} {tl : TE} {g : TG} {tb : TS} {D : Ends} {σ : St} {H : Hp} {ix : List Nat} {tt : TT} {te : TE} {Q : VK}
theorem tFor_R1 : tFor (iRng1 ta) g tb D σ H = ta σ H fun vs H1 => ∃ j : Int, vs = [.int j] ∧ -(2 ^ 62) ≤ j ∧ j < 2 ^ 62 ∧ ForG (Itr 0 j.toNat) g tb D σ H1 := rfl
theorem tFor_R2 : tFor (iRng2 ta) g tb D σ H = ta σ H fun vs H1 => ∃ i j : Int, vs = [.int i, .int j] ∧ (-(2 ^ 62) ≤ i ∧ i < 2 ^ 62 ∧ -(2 ^ 62) ≤ j ∧ j < 2 ^ 62) ∧ ForG (Itr i (j - i).toNat) g tb D σ H1 := rfl
theorem tFor_L : tFor (iList K tl) g tb D σ H = tl σ H fun x H1 => ∃ a, x = .ref a ∧ (∃ xs, SqL K H1 a xs) ∧ ForG (Itl K a) g tb D σ H1 := rfl
theorem tFor_T : tFor (iTup K tl) g tb D σ H = tl σ H fun x H1 => ∃ a, x = .ref a ∧ (∃ xs, SqT K H1 a xs) ∧ ForG (Itt K a) g tb D σ H1 := rfl
theorem tComp_R1 : tComp (iRng1 ta) ix g tt te σ H Q = ta σ H fun vs H1 => ∃ j : Int, vs = [.int j] ∧ -(2 ^ 62) ≤ j ∧ j < 2 ^ 62 ∧ ∀ acc, H1 acc = none → CompGo (Itr 0 j.toNat) (slotsAt σ ix) g tt te acc (fun H' => Q (.ref acc) H') H1 := rfl
theorem tComp_R2 : tComp (iRng2 ta) ix g tt te σ H Q = ta σ H fun vs H1 => ∃ i j : Int, vs = [.int i, .int j] ∧ (-(2 ^ 62) ≤ i ∧ i < 2 ^ 62 ∧ -(2 ^ 62) ≤ j ∧ j < 2 ^ 62) ∧ ∀ acc, H1 acc = none → CompGo (Itr i (j - i).toNat) (slotsAt σ ix) g tt te acc (fun H' => Q (.ref acc) H') H1 := rfl
theorem tComp_L : tComp (iList K tl) ix g tt te σ H Q = tl σ H fun x H1 => ∃ a, x = .ref a ∧ (∃ xs, SqL K H1 a xs) ∧ ∀ acc, H1 acc = none → CompGo (Itl K a) (slotsAt σ ix) g tt te acc (fun H' => Q (.ref acc) H') H1 := rfl
theorem tComp_T : tComp (iTup K tl) ix g tt te σ H Q = tl σ H fun x H1 => ∃ a, x = .ref a ∧ (∃ xs, SqT K H1 a xs) ∧ ∀ acc, H1 acc = none → CompGo (Itt K a) (slotsAt σ ix) g tt te acc (fun H' => Q (.ref acc) H') H1 := rfl
theorem FoR.lst {P : Prop} {a : Addr} {xs : List V} (k : SqL K H a xs) (h : P) : (∃ xs, SqL K H a xs) ∧ P := ⟨⟨xs, k⟩, h⟩
theorem FoR.tup {P : Prop} {a : Addr} {xs : List V} (k : SqT K H a xs) (h : P) : (∃ xs, SqT K H a xs) ∧ P := ⟨⟨xs, k⟩, h⟩
/-- len -/
theorem FoR.len {P : List V → Prop} {a : Addr} {xs : List V} (k : SqL K H a xs) (h : P xs) : ∃ x, (SqL K H a x ∨ SqT K H a x) ∧ P x := ⟨xs, .inl k, h⟩
theorem FoR.lenT {P : List V → Prop} {a : Addr} {xs : List V} (k : SqT K H a xs) (h : P xs) : ∃ x, (SqL K H a x ∨ SqT K H a x) ∧ P x := ⟨xs, .inr k, h⟩
end
end L2
/-! EXTENSION G: comprehensions whose items are told. -/
namespace L2
open PySem PySem.Spec PyProof.Rows
theorem Same.keepN {H H' : Hp} {p : Addr} (h : Same H H') (n : H p = none) (o : HO) : Same H (upd H' p o) := fun b u q => by rw [upd_ne (ne_of_none q n)]; exact h b u q
theorem Same.noneN {H H' : Hp} {p : Addr} (h : Same H H') (n : H' p = none) : H p = none := by
  cases e : H p with
  | none => rfl
  | some o =>
    have z := h _ _ e
    rw [n] at z
    cases z
theorem lt_line {n : Nat} (h : n < 1000) : n < sizeLine := Nat.lt_of_lt_of_le h (by decide)
section
variable {ρ : St} {te : TE} {tt : TT} {acc : Addr} {Z : Hp → Prop} {H1 : Hp}
/-- with a test -/
theorem compRif {lo : Int} {n : Nat} (f : Nat → V) (c : Nat → Bool) (hn : n < 1000) (hacc : H1 acc = none)
    (ht : ∀ (i : Nat) (H3 : Hp) (R : Bool → Hp → Prop), i < n → Same H1 H3 → (∀ H4, Same H3 H4 → R (c i) H4) → tt (some (.int (lo + i)) :: ρ) H3 R)
    (hs : ∀ (i : Nat) (H3 : Hp) (R : V → Hp → Prop), i < n → c i = true → Same H1 H3 → (∀ H4, Same H3 H4 → R (f i) H4) → te (some (.int (lo + i)) :: ρ) H3 R)
    (hd : ∀ H', Same H1 H' → H' acc = some (.lst (((List.range n).filter c).map f)) → Z H') : CompGo (Itr lo n) ρ (gName 0) tt te acc Z H1 := by
  refine ⟨fun i m xs H => (Same H1 H ∧ H acc = some (.lst xs) ∧ xs = ((List.range i).filter c).map f) ∧ i ≤ n ∧ m = n - i, ⟨n, ⟨Same.new hacc _, upd_same, rfl⟩, Nat.zero_le _, rfl⟩, ?_⟩
  rintro i m xs H ⟨⟨g1, g2, rfl⟩, hi, rfl⟩
  have hl : (((List.range i).filter c).map f).length < sizeLine := lt_line (by
    rw [List.length_map]
    have := List.length_filter_le c (List.range i)
    rw [List.length_range] at this
    omega)
  by_cases hlt : i < n
  · refine .inr ⟨hlt, (fun y H4 => y = f i ∧ c i = true ∧ Same H1 H4 ∧ H4 acc = some (.lst (((List.range i).filter c).map f))), fun H3 => c i = false ∧ Same H1 H3 ∧ H3 acc = some (.lst (((List.range i).filter c).map f)), ?_, ?_, ?_⟩
    · rintro y H4 ⟨rfl, ci, s4, a4⟩
      refine ⟨a4, hl, n - (i + 1), by omega, ⟨Same.keepN s4 hacc _, upd_same, ?_⟩, hlt, rfl⟩
      rw [List.range_succ, List.filter_append, List.map_append, List.filter_cons, if_pos ci]
      rfl
    · rintro H3 ⟨ci, s3, a3⟩
      refine ⟨n - (i + 1), by omega, ⟨s3, a3, ?_⟩, hlt, rfl⟩
      rw [List.range_succ, List.filter_append, List.map_append, List.filter_cons, if_neg (by rw [ci]; decide)]
      simp
    · rintro v0 x H' ⟨rfl, rfl⟩
      refine ⟨⟨_, rfl⟩, ht i H' _ hlt g1 fun H4 s4 => ?_⟩
      cases ci : c i with
      | true => exact if_pos rfl ▸ hs i H4 _ hlt ci (g1.trans s4) fun H5 s5 => ⟨rfl, rfl, g1.trans (s4.trans s5), s5 _ _ (s4 _ _ g2)⟩
      | false => exact ⟨rfl, g1.trans s4, s4 _ _ g2⟩
  · have : i = n := by omega
    subst this
    exact .inl ⟨Nat.le_refl _, hd H g1 g2⟩
theorem compT {K : PySem.W.Frag} {a : Addr} {zs : List V} (f : V → V) (hn : zs.length < 1000) (hacc : H1 acc = none) (hz : SqT K H1 a zs)
    (hs : ∀ (z : V) (H3 : Hp) (R : V → Hp → Prop), z ∈ zs → Same H1 H3 → (∀ H4, Same H3 H4 → R (f z) H4) → te (some z :: ρ) H3 R)
    (hd : ∀ H', Same H1 H' → H' acc = some (.lst (zs.map f)) → Z H') : CompGo (Itt K a) ρ (gName 0) tNoIf te acc Z H1 := by
  refine comp_tup (zs := zs) (fun i xs H => Same H1 H ∧ H acc = some (.lst xs) ∧ xs = (zs.take i).map f) ⟨Same.new hacc _, upd_same, rfl⟩ (fun i xs H _ h => h.1.tup hz) ?_ ?_
  · rintro i z xs H hi ⟨g1, g2, rfl⟩
    refine hs z H _ (List.mem_of_getElem? hi) g1 fun H4 s4 => ⟨s4 _ _ g2, lt_line ?_, Same.keepN (g1.trans s4) hacc _, upd_same, ?_⟩
    · rw [List.length_map, List.length_take]
      omega
    · rw [List.take_add_one, hi, List.map_append]
      rfl
  · rintro xs H ⟨g1, g2, rfl⟩
    rw [List.take_length] at g2
    exact hd H g1 g2
end
end L2
/-! EXTENSION H: == and != of lists and tuples of ints, and of lists of such. -/
namespace L2
open PySem PySem.Spec PyProof.Rows
section
variable {K : PySem.W.Frag} {H : Hp} {a b : Addr} {Q : VK}
theorem shapedT (ns : List Int) : SeqAt.shaped (.tuple (ns.map PyData.int)) = true := by
  simp [SeqAt.shaped, PyData.canLay0, PyData.depth, PySem.W.ke_canLayAll0, PySem.W.ke_depthAll]
theorem eqT_ints {x y : List Int} (h1 : SqT K H a (x.map V.int)) (h2 : SqT K H b (y.map V.int)) (q : Q (.bl (decide (x = y))) H) : rEqD K false (.ref a) (.ref b) H Q :=
  ⟨.tuple (x.map PyData.int), .tuple (y.map PyData.int), .tup h1 (RdsAll.ints _), .tup h2 (RdsAll.ints _), shapedT _, shapedT _, by
    have e : PyData.eqv (.tuple (x.map PyData.int)) (.tuple (y.map PyData.int)) = decide (x = y) := PySem.W.ked_eqvAll x y
    simp only [Bool.false_eq_true, if_false, e]
    exact q⟩
/-- tuples of ints behind a row of references -/
def TupsAt (K : PySem.W.Frag) (H : Hp) (vs : List V) (nss : List (List Int)) : Prop := vs.length = nss.length ∧ ∀ (i : Nat) (v : V) (ns : List Int), vs[i]? = some v → nss[i]? = some ns → ∃ p, v = .ref p ∧ SqT K H p (ns.map V.int)
def tupD (nss : List (List Int)) : List PyData := nss.map fun ns => .tuple (ns.map PyData.int)
theorem TupsAt.nil : TupsAt K H [] [] := ⟨rfl, fun i v ns h => by simp at h⟩
theorem FoR.app {X : Prop} {L : Addr} {ps : List V} {x : V} {R : VK} (h : H L = some (.lst ps)) (hl : ps.length < sizeLine) (q : R .non (upd H L (.lst (ps ++ [x])))) : ((∃ xs, SqL K H L xs) ∨ X) ∧ rAppend (.ref L) [x] H R :=
  ⟨.inl ⟨_, SqL.of h⟩, L, ps, x, rfl, rfl, h, hl, q⟩
end
end L2
/-! EXTENSION I: sum and min of a list of ints. -/
namespace L2
open PySem PySem.Spec PyProof.Rows
end L2
namespace L2
open PySem PySem.Spec PyProof.Rows
/-- tuple(a list) -/
theorem FoR.tupOf {K : PySem.W.Frag} {H : Hp} {p : Addr} {ys : List V} {X : Prop} {R : Addr → Hp → Prop} (k : SqL K H p ys) (h : ∀ t H', Same H H' → H' t = some (.tup ys) → R t H') : ∃ ys, (SqL K H p ys ∧ ∀ l, H l = none → R l (upd H l (.tup ys))) ∨ (SqT K H p ys ∧ R p H) :=
  ⟨ys, .inl ⟨k, fun l hl => h l _ (Same.new hl _) upd_same⟩⟩
end L2
namespace L2
open PySem PySem.Spec PyProof.Rows
theorem se_tup {es : List Expr} {k : Nat} {rest : List Expr} {pos : Pos} {env : Env} : starEach (.Tuple es k pos :: rest) env = (false, eval (.Tuple es k pos) env) :: starEach rest env := by
  rw [starEach]
  intro e p h
  cases h
theorem se_con {c : Const} {k : Nat} {rest : List Expr} {pos : Pos} {env : Env} : starEach (.Constant c k pos :: rest) env = (false, eval (.Constant c k pos) env) :: starEach rest env := by
  rw [starEach]
  intro e p h
  cases h
theorem se_un {op : UnaryOp} {a : Expr} {rest : List Expr} {pos : Pos} {env : Env} : starEach (.UnaryOp op a pos :: rest) env = (false, eval (.UnaryOp op a pos) env) :: starEach rest env := by
  rw [starEach]
  intro e p h
  cases h
theorem se_nam {x : Str} {rest : List Expr} {pos : Pos} {env : Env} : starEach (.Name x pos :: rest) env = (false, eval (.Name x pos) env) :: starEach rest env := by
  rw [starEach]
  intro e p h
  cases h
theorem se_cal {a : Expr} {es : List Expr} {ks : List Keyword} {rest : List Expr} {pos : Pos} {env : Env} : starEach (.Call a es ks pos :: rest) env = (false, eval (.Call a es ks pos) env) :: starEach rest env := by
  rw [starEach]
  intro e p h
  cases h
theorem se_bin {a b : Expr} {op : Operator} {rest : List Expr} {pos : Pos} {env : Env} : starEach (.BinOp a op b pos :: rest) env = (false, eval (.BinOp a op b pos) env) :: starEach rest env := by
  rw [starEach]
  intro e p h
  cases h
theorem se_sub {a b : Expr} {rest : List Expr} {pos : Pos} {env : Env} : starEach (.Subscript a b pos :: rest) env = (false, eval (.Subscript a b pos) env) :: starEach rest env := by
  rw [starEach]
  intro e p h
  cases h
theorem se_cmp {a : Expr} {gs : List Comprehension} {sc : Scope} {rest : List Expr} {pos : Pos} {env : Env} : starEach (.ListComp a gs sc pos :: rest) env = (false, eval (.ListComp a gs sc pos) env) :: starEach rest env := by
  rw [starEach]
  intro e p h
  cases h
end L2
/-! EXTENSION J: the promises as structures (a text that begins with a long list of written tuples is else run while it is read). -/
namespace L2
open PySem PySem.Spec PyProof.Rows
structure WE (X : Cx) (e : Expr) (t : TE) : Prop where
  h : PE X e t
structure WA (X : Cx) (es : List Expr) (t : TA) : Prop where
  h : PA X es t
structure WS (X : Cx) (st : Stmt) (t : TS) : Prop where
  h : PS X st t
structure WSs (X : Cx) (st : List Stmt) (t : TS) : Prop where
  h : PSs X st t
section
variable {X : Cx} {pos : Pos}
theorem wss_cons {st : Stmt} {rest : List Stmt} {t u : TS} (h1 : WS X st t) (h2 : WSs X rest u) : WSs X (st :: rest) (tSeq t u) := ⟨pss_cons h1.h h2.h⟩
theorem wss_one {st : Stmt} {t : TS} (h : WS X st t) : WSs X [st] t := ⟨pss_one h.h⟩
theorem ws_asg {tg e : Expr} {te : TE} {g : TG} (he : WE X e te) (hg : PG X tg g) (hs : swapsWithSole [tg] e pos.line X.env = pure false := by rfl) (hw : swappedStores [tg] e X.env = pure none := by rfl)
    (h1 : (assignEach [tg] X.env).map (·.2) = [assign tg X.env] := by rfl) : WS X (.Assign [tg] e pos) (tAsg te g) := ⟨ps_asg he.h hg hs hw h1⟩
theorem ws_if {e : Expr} {tt : TT} {b1 b2 : List Stmt} {t1 t2 : TS} (h : PT X e tt) (h1 : WSs X b1 t1) (h2 : WSs X b2 t2) : WS X (.If e b1 b2 pos) (tIfS tt t1 t2) := ⟨ps_if h h1.h h2.h⟩
theorem we_lst {es : List Expr} {t : TA} (h : WA X es t) : WE X (.List es pos) (tLst t) := ⟨pe_lst h.h⟩
theorem we_tup {es : List Expr} {k : Nat} {t : TA} (h : WA X es t) : WE X (.Tuple es k pos) (tTup t) := ⟨pe_tup h.h⟩
theorem wa_nil : WA X [] tNil := ⟨pa_nil⟩
theorem wa_cons {e : Expr} {es : List Expr} {te : TE} {t : TA} (ha : WE X e te) (hr : WA X es t) (hs : starEach (e :: es) X.env = (false, eval e X.env) :: starEach es X.env) : WA X (e :: es) (tCons te t) := ⟨pa_cons ha.h hr.h hs⟩
end
section
variable {P : Program} {w : World} {K : PySem.W.Frag} {mg : Str → Option Value} {base : Heap}
theorem At.okW {x : Str} {st : Stmt} {N ps : List Str} {dvs : List V} {k : Nat} {sp : Sp} (F : At K mg x st ps dvs) (S : FnScope N ps (defScope st)) (len : ∀ vs H Q E, sp vs H Q E → vs.length = ps.length)
    (hbody : ∀ (f : Addr) (cdv : Value) (A : Around) (outer : List Env) (s : Shared) (H : Hp) (vs : List V) (Q : VK) (E : XK), Room k (A.deeper (envOfC x (defScope st) s.heap.objs.size f cdv)) → sp vs H Q E →
      ∃ t, WSs (cxOf CX0 P w K mg base N x (defScope st) f cdv A outer s H E).nox (defBody st) t ∧ t { nx := fun _ H' => Q .non H', rt := Q } (start N vs) H) : DefOk P w K mg base CX0 (k + 1) x ps dvs sp :=
  F.ok S len fun f cdv A outer s H vs Q E hr h => let ⟨t, h1, h2⟩ := hbody f cdv A outer s H vs Q E hr h; ⟨t, h1.h, h2⟩
end
end L2
/-! EXTENSION K: xs[:c] = ys. -/
namespace L2
open PySem PySem.Spec PyProof.Rows
section
variable {prog : Program} {w : World} {A : Around} {E : Value → Shared → Prop} {s : Shared}
end
section
variable {X : Cx} {pos p2 : Pos}
def gSl0 (to : TE) (tl th : TO) : TG := fun v σ H Q => to σ H fun o H1 => tl σ H1 fun lo H2 => th σ H2 fun hi H3 => lo = none ∧ ∃ (c : Nat) (l b : Addr) (xs ys : List V), hi = some (c : Int) ∧ o = .ref l ∧ v = .ref b ∧ l ≠ b ∧ H3 l = some (.lst xs) ∧ H3 b = some (.lst ys) ∧ c ≤ xs.length ∧ xs.length + ys.length ≤ sizeLine ∧ Q σ (upd H3 l (.lst (ys ++ xs.drop c)))
end
end L2
namespace L2
open PySem PySem.Spec PyProof.Rows
section
variable {ρ : St} {te : TE} {tt : TT} {acc : Addr} {Z : Hp → Prop} {H1 : Hp}
end
end L2
/-! EXTENSION L: comprehensions whose items are references of which something is known, and filters by place. -/
namespace L2
open PySem PySem.Spec PyProof.Rows
section
variable {X : Cx}
end
section
variable {ρ : St} {te : TE} {tt : TT} {acc : Addr} {Z : Hp → Prop} {H1 : Hp}
/-- all tuples stay -/
def SameT (H H' : Hp) : Prop := ∀ a xs, H a = some (.tup xs) → H' a = some (.tup xs)
theorem Same.t {H H' : Hp} (s : Same H H') : SameT H H' := fun a xs h => s a _ h
theorem SameT.trans {H H' J : Hp} (s : SameT H H') (t : SameT H' J) : SameT H J := fun a xs h => t a xs (s a xs h)
theorem SameT.refl (H : Hp) : SameT H H := fun _ _ h => h
theorem SameT.upd {H : Hp} {a : Addr} {xs ys : List V} (h : H a = some (.lst xs)) : SameT H (upd H a (.lst ys)) := fun b zs hb => by
  have ne : b ≠ a := fun e => by
    subst e
    rw [h] at hb
    cases hb
  rw [upd_ne ne]
  exact hb
def Stab (p : Nat → V → Hp → Prop) : Prop := ∀ i y H H', p i y H → SameT H H' → p i y H'
theorem snocP {p : Nat → V → Hp → Prop} {xs : List V} {y : V} {i : Nat} {H : Hp} (hl : xs.length = i) (hp : ∀ j z, xs[j]? = some z → p j z H) (py : p i y H) : ∀ j z, (xs ++ [y])[j]? = some z → p j z H := fun j z hz => by
  by_cases cj : j < xs.length
  · rw [List.getElem?_append_left cj] at hz
    exact hp j z hz
  · have cj2 : j < (xs ++ [y]).length := (List.getElem?_eq_some_iff.mp hz).1
    rw [List.length_append] at cj2
    have e : j = i := by
      have : j < xs.length + 1 := cj2
      omega
    subst e
    rw [List.getElem?_append_right (by omega), hl, Nat.sub_self] at hz
    cases hz
    exact py
theorem compRq {lo : Int} {n : Nat} (p : Nat → V → Hp → Prop) (st : Stab p) (hn : n < 1000) (hacc : H1 acc = none)
    (hs : ∀ (i : Nat) (H3 : Hp) (R : V → Hp → Prop), i < n → Same H1 H3 → (∀ y H4, Same H3 H4 → p i y H4 → R y H4) → te (some (.int (lo + i)) :: ρ) H3 R)
    (hd : ∀ ys H', Same H1 H' → H' acc = some (.lst ys) → ys.length = n → (∀ i y, ys[i]? = some y → p i y H') → Z H') : CompGo (Itr lo n) ρ (gName 0) tNoIf te acc Z H1 := by
  refine comp_range (fun i xs H => Same H1 H ∧ H acc = some (.lst xs) ∧ xs.length = i ∧ ∀ j y, xs[j]? = some y → p j y H) ⟨Same.new hacc _, upd_same, rfl, fun j y h => by simp at h⟩ ?_ ?_
  · rintro i xs H hi ⟨g1, g2, hl, hp⟩
    refine hs i H _ hi g1 fun y H4 s4 py => ⟨s4 _ _ g2, lt_line (by omega), Same.keepN (g1.trans s4) hacc _, upd_same, ?_, ?_⟩
    · rw [List.length_append, hl]
      rfl
    · have u := SameT.upd (ys := xs ++ [y]) (s4 _ _ g2)
      exact snocP hl (fun j z hz => st _ _ _ _ (hp j z hz) (s4.t.trans u)) (st _ _ _ _ py u)
  · rintro xs H ⟨g1, g2, hl, hp⟩
    exact hd xs H g1 g2 hl hp
theorem compLq {K : PySem.W.Frag} {a : Addr} {zs : List V} (p : Nat → V → Hp → Prop) (st : Stab p) (hn : zs.length < 1000) (hacc : H1 acc = none) (hz : SqL K H1 a zs)
    (hs : ∀ (i : Nat) (z : V) (H3 : Hp) (R : V → Hp → Prop), zs[i]? = some z → Same H1 H3 → (∀ y H4, Same H3 H4 → p i y H4 → R y H4) → te (some z :: ρ) H3 R)
    (hd : ∀ ys H', Same H1 H' → H' acc = some (.lst ys) → ys.length = zs.length → (∀ i y, ys[i]? = some y → p i y H') → Z H') : CompGo (Itl K a) ρ (gName 0) tNoIf te acc Z H1 := by
  refine comp_list (zs := zs) (fun i xs H => Same H1 H ∧ H acc = some (.lst xs) ∧ xs.length = i ∧ ∀ j y, xs[j]? = some y → p j y H) ⟨Same.new hacc _, upd_same, rfl, fun j y h => by simp at h⟩ (fun i xs H _ h => h.1.seq hz) ?_ ?_
  · rintro i z xs H hi ⟨g1, g2, hl, hp⟩
    have hlt := (List.getElem?_eq_some_iff.mp hi).1
    refine hs i z H _ hi g1 fun y H4 s4 py => ⟨s4 _ _ g2, lt_line (by omega), Same.keepN (g1.trans s4) hacc _, upd_same, ?_, ?_⟩
    · rw [List.length_append, hl]
      rfl
    · have u := SameT.upd (ys := xs ++ [y]) (s4 _ _ g2)
      exact snocP hl (fun j z hz => st _ _ _ _ (hp j z hz) (s4.t.trans u)) (st _ _ _ _ py u)
  · rintro xs H ⟨g1, g2, hl, hp⟩
    exact hd xs H g1 g2 hl hp
theorem compTq {K : PySem.W.Frag} {a : Addr} {zs : List V} (p : Nat → V → Hp → Prop) (st : Stab p) (hn : zs.length < 1000) (hacc : H1 acc = none) (hz : SqT K H1 a zs)
    (hs : ∀ (i : Nat) (z : V) (H3 : Hp) (R : V → Hp → Prop), zs[i]? = some z → Same H1 H3 → (∀ y H4, Same H3 H4 → p i y H4 → R y H4) → te (some z :: ρ) H3 R)
    (hd : ∀ ys H', Same H1 H' → H' acc = some (.lst ys) → ys.length = zs.length → (∀ i y, ys[i]? = some y → p i y H') → Z H') : CompGo (Itt K a) ρ (gName 0) tNoIf te acc Z H1 := by
  refine comp_tup (zs := zs) (fun i xs H => Same H1 H ∧ H acc = some (.lst xs) ∧ xs.length = i ∧ ∀ j y, xs[j]? = some y → p j y H) ⟨Same.new hacc _, upd_same, rfl, fun j y h => by simp at h⟩ (fun i xs H _ h => h.1.tup hz) ?_ ?_
  · rintro i z xs H hi ⟨g1, g2, hl, hp⟩
    have hlt := (List.getElem?_eq_some_iff.mp hi).1
    refine hs i z H _ hi g1 fun y H4 s4 py => ⟨s4 _ _ g2, lt_line (by omega), Same.keepN (g1.trans s4) hacc _, upd_same, ?_, ?_⟩
    · rw [List.length_append, hl]
      rfl
    · have u := SameT.upd (ys := xs ++ [y]) (s4 _ _ g2)
      exact snocP hl (fun j z hz => st _ _ _ _ (hp j z hz) (s4.t.trans u)) (st _ _ _ _ py u)
  · rintro xs H ⟨g1, g2, hl, hp⟩
    exact hd xs H g1 g2 hl hp
end
end L2
/-! EXTENSION M: texts: walked, compared, repeated, cut; a def without parameters. -/
namespace L2
open PySem PySem.Spec PyProof.Rows
section
variable {X : Cx} {tg : Expr}
def Asc (x : Str) : Prop := (x.cps.all fun c => decide (c < 128)) = true
/-- the signs of a text -/
def Its (x : Str) : It := ⟨fun i _ => i < x.cps.size, fun i H v H' => H' = H ∧ ∃ c, x.cps[i]? = some c ∧ v = .str ⟨#[c]⟩, fun i _ => x.cps.size ≤ i⟩
def iStr (tl : TE) : TI := fun σ H R => tl σ H fun v H1 => ∃ x, v = .str x ∧ Asc x ∧ R (Its x) H1
end
section
variable {X : Cx} {e : Expr} {lo hi : Option Expr} {te : TE} {tl th : TO} {pos p2 : Pos}
def rSlS : V → Option Int → Option Int → Hp → VK → Prop := fun x l u H Q => ∃ z, x = .str z ∧ z.length ≤ sizeLine ∧ (l = none ∧ u ≠ none ∨ l ≠ none ∧ u = none) ∧ Q (.str (Txt.slice z l u)) H
end
section
variable {X : Cx} {CX : CXT} {k : Nat} {x : Str} {ps : List Str} {dvs : List V} {sp : Sp} {E : XK} {p pos : Pos}
end
section
variable {tl : TE} {g : TG} {tb : TS} {D : Ends} {σ : St} {H : Hp} {ix : List Nat} {tt : TT} {te : TE} {Q : VK}
theorem tFor_S : tFor (iStr tl) g tb D σ H = tl σ H fun v H1 => ∃ x, v = .str x ∧ Asc x ∧ ForG (Its x) g tb D σ H1 := rfl
theorem tComp_S : tComp (iStr tl) ix g tt te σ H Q = tl σ H fun v H1 => ∃ x, v = .str x ∧ Asc x ∧ ∀ acc, H1 acc = none → CompGo (Its x) (slotsAt σ ix) g tt te acc (fun H' => Q (.ref acc) H') H1 := rfl
end
section
variable {ρ : St} {te : TE} {acc : Addr} {Z : Hp → Prop} {H1 : Hp}
end
end L2
namespace L2
open PySem PySem.Spec PyProof.Rows
theorem lri_len : typeLookup (.type "list_reverseiterator") "__len__" = pure none := by with_unfolding_all rfl
theorem lri_hint : typeLookup (.type "list_reverseiterator") "__length_hint__" = pure (some (.builtin "list_reverseiterator.__length_hint__")) := by with_unfolding_all rfl
theorem hint_rev {M : Model} {A : Around} {E : Value → Shared → Prop} {s : Shared} {Q : Bool → Shared → Prop} {I l : Addr} {i : Int} (h : s.heap.IsRevIter I l i) (q : Q false s) : wpAny M A (Builtin.List.listLengthHint (.ref I)) Q E s := by
  obtain ⟨o, ho, hc, hd⟩ := h
  have ty : s.TypeIs (.ref I) "list_reverseiterator" := ⟨o, ho, hc⟩
  unfold Builtin.List.listLengthHint
  refine wpAny_bind (wpAny_specialOf ty lri_len ?_)
  dsimp only
  refine wpAny_ite_split (fun c => absurd c (by decide)) fun _ => ?_
  refine wpAny_ite_split (fun c => absurd c (by decide)) fun _ => ?_
  refine wpAny_bind (wpAny_specialOf ty lri_hint ?_)
  dsimp only
  have sp : splitId "list_reverseiterator.__length_hint__" = some ("list_reverseiterator", "__length_hint__") := by decide +kernel
  rw [sp]
  dsimp only
  refine wpAny_bind (wpAny_isInstance (b := true) ty (by with_unfolding_all rfl) ?_)
  refine wpAny_ite_split (fun c => absurd c (by decide)) fun _ => ?_
  refine wpAny_ite_split (fun c => ?_) fun c => absurd c (by decide)
  refine wpAny_ite_split (fun c => absurd c (by decide)) fun _ => ?_
  exact wpAny_pure q









theorem extend_rev {prog : Program} {w : World} {A : Around} {s : Shared} {R : Result → Shared → Prop} {I l : Addr} {items : Array Value} (hh : A.handled = none) (hne : l ≠ I) (S : Addr) (res : Value) (c₀ : Nat) (hI : s.heap.IsRevIter I l ((items.size : Int) - 1)) (hl : s.heap.IsList l items) (hS : S ≠ I) (hSl : S ≠ l)
    (e : s.heap.get? S = some { cls := .type "list", data := .seq #[] c₀ }) (hz : items.size ≤ sizeLine)
    (q : ∀ (h' : Heap) (tk : Nat) (acc' : Array Value) (c' : Nat), (∀ b o, b ≠ S → b ≠ I → s.heap.get? b = some o → h'.get? b = some o) → h'.get? S = some { cls := .type "list", data := .seq acc' c' } → ItemsOf (fun i v => items[items.size - 1 - i]? = some v) acc' items.size → R (.ok (.ret res)) { s with heap := h', toks := tk }) :
    wpAny (model prog w) A.in1 (Builtin.List.listExtendWith (.ref S) (.ref I) res)
      (fun fin s' => match fin with | .done f => R (.ok f) s' | .again c' => c'.quiet = true ∧ codeAny (model prog w) A c' R s') (fun e s' => R (.error e) s') s := by
  obtain ⟨o, ho, hc, hd⟩ := id hI
  have ty : s.TypeIs (.ref I) "list_reverseiterator" := ⟨o, ho, hc⟩
  unfold Builtin.List.listExtendWith
  refine wpAny_bind (wpAny_typeOf ty ?_)
  refine wpAny_ite_split (fun c => ?_) fun _ => ?_
  · exfalso
    have e1 : Builtin.List.listSameRef (.ref S) (.ref I) = false := by
      simp [Builtin.List.listSameRef, hS]
    rw [e1] at c
    revert c
    decide
  refine wpAny_bind (wpAny_pyIter_revIter hI ?_)
  refine wpAny_bind (wpAny_holding (hint_rev hI ?_))
  refine wpAny_ite_split (fun c => absurd c (by decide)) fun _ => ?_
  have W := (Walks.listRev (prog := prog) (w := w) (A := A.in1) hh I l hne items).toS
  refine wpAny_pure ⟨plainId_quiet F.plain_extend_loop _, ?_⟩
  refine codeAny_extend_loopS W hz S (by simp [hS, hSl]) res items.size 0 s #[] c₀ rfl (Nat.zero_le _) ⟨Nat.zero_le _, by simpa using hI, hl⟩ e ⟨rfl, fun j v h => by simp at h⟩ fun s' acc' c' mv e' it => ?_
  have eq := Moved.eq_with mv
  rw [eq]
  exact q s'.heap s'.toks acc' c' (fun b o h1 h2 e => mv.heap b o (by simp [h1, h2]) e) e' it






theorem init_rev {prog : Program} {w : World} {A : Around} {s : Shared} {R : Result → Shared → Prop} {I l : Addr} {items : Array Value} (hh : A.handled = none) (hne : l ≠ I) (S : Addr) (hI : s.heap.IsRevIter I l ((items.size : Int) - 1)) (hl : s.heap.IsList l items) (hS : S ≠ I) (hSl : S ≠ l)
    (e : s.heap.get? S = some { cls := .type "list", data := .seq #[] }) (hz : items.size ≤ sizeLine)
    (q : ∀ (h' : Heap) (tk : Nat) (acc' : Array Value) (c' : Nat), (∀ b o, b ≠ S → b ≠ I → s.heap.get? b = some o → h'.get? b = some o) → h'.get? S = some { cls := .type "list", data := .seq acc' c' } → ItemsOf (fun i v => items[items.size - 1 - i]? = some v) acc' items.size → R (.ok (.ret .none)) { s with heap := h', toks := tk }) :
    wpAny (model prog w) A.in1 (Builtin.«list.__init__» { pos := [.ref S, .ref I] })
      (fun fin s' => match fin with | .done f => R (.ok f) s' | .again c' => c'.quiet = true ∧ codeAny (model prog w) A c' R s') (fun e s' => R (.error e) s') s := by
  unfold Builtin.«list.__init__»
  dsimp only
  refine wpAny_ite_split (fun c => absurd c (by decide)) fun _ => ?_
  refine wpAny_ite_split (fun c => absurd c (by simp)) fun _ => ?_
  refine wpAny_bind (wpAny_bind (wpAny_seqItems e rfl (wpAny_pure ?_)))
  refine wpAny_bind (wpAny_updateSeq e rfl ?_ (by simp) (by simp))
  refine wpAny_bind (wpAny_letGo ?_)
  have eS := Heap.get?_update_self (Obj.mapSeq fun _ => (#[] : Array Value)) e rfl
  have eO : ∀ b, b ≠ S → (s.heap.update S (Obj.mapSeq fun _ => (#[] : Array Value))).get? b = s.heap.get? b := fun b hb => Heap.get?_update_other s.heap _ (Ne.symm hb)
  obtain ⟨o, ho, hc, hd⟩ := hI
  obtain ⟨o2, ho2, hc2, n2, hd2⟩ := hl
  refine extend_rev (s := { s with heap := s.heap.update S (Obj.mapSeq fun _ => (#[] : Array Value)) }) (items := items) hh hne S .none _ ⟨o, (eO I (Ne.symm hS)).trans ho, hc, hd⟩ ⟨o2, (eO l (Ne.symm hSl)).trans ho2, hc2, n2, hd2⟩ hS hSl eS hz fun h' tk acc' c' k e' it => ?_
  exact q h' tk acc' c' (fun b o h1 h2 hb => k b o h1 h2 ((eO b h1).trans hb)) e' it

theorem call_list_rev {prog : Program} {w : World} {A : Around} {E : Value → Shared → Prop} {s : Shared} {Q : Value → Shared → Prop} {I l : Addr} {items : Array Value} (hh : A.handled = none) (hne : l ≠ I) (hI : s.heap.IsRevIter I l ((items.size : Int) - 1)) (hl : s.heap.IsList l items) (hz : items.size ≤ sizeLine)
    (q : ∀ (h' : Heap) (tk : Nat) (acc' : Array Value) (c' : Nat), (∀ b o, b ≠ I → s.heap.get? b = some o → h'.get? b = some o) → h'.get? s.heap.objs.size = some { cls := .type "list", data := .seq acc' c' } → ItemsOf (fun i v => items[items.size - 1 - i]? = some v) acc' items.size → Q (.ref s.heap.objs.size) { s with heap := h', toks := tk }) :
    wpAny (model prog w) A (call (.type "list") [.ref I]) Q E s := by
  obtain ⟨o, ho, hc, hd⟩ := hI
  obtain ⟨o2, ho2, hc2, n2, hd2⟩ := hl
  have n1 : s.heap.objs.size ≠ I := Ne.symm (Nat.ne_of_lt (Heap.lt_size ho))
  have n2' : s.heap.objs.size ≠ l := Ne.symm (Nat.ne_of_lt (Heap.lt_size ho2))
  refine callType_codes F.called_list (F.typeCall_list_1 _) F.entry_list_init (Q₁ := fun obj s₁ => obj = .ref s.heap.objs.size ∧ s₁ = { s with heap := s.heap.push { cls := .type "list", data := .seq #[] } }) (code_list_new _ ⟨rfl, rfl⟩) ?_
  rintro obj s₁ ⟨rfl, rfl⟩
  have eS : (s.heap.push { cls := .type "list", data := .seq #[] }).get? s.heap.objs.size = some { cls := .type "list", data := .seq #[] } := Heap.get?_push_size _ rfl
  refine ⟨⟨_, eS, rfl⟩, F.args_list_init_2 _ _, ?_⟩
  refine init_rev (A := A.in1) (s := { s with heap := s.heap.push { cls := .type "list", data := .seq #[] } }) (items := items) hh hne s.heap.objs.size ⟨o, Heap.get?_push_of_some _ ho, hc, hd⟩ ⟨o2, Heap.get?_push_of_some _ ho2, hc2, n2, hd2⟩ n1 n2' eS hz fun h' tk acc' c' k e' it => ?_
  exact ⟨rfl, q h' tk acc' c' (fun b o h1 hb => k b o (Nat.ne_of_lt (Heap.lt_size hb)) h1 (Heap.get?_push_of_some _ hb)) e' it⟩
theorem Vals.app {xs ys : List V} {us vs : List Value} (h : Vals xs us) (k : Vals ys vs) : Vals (xs ++ ys) (us ++ vs) := by
  induction h with
  | nil => exact k
  | cons r _ ih => exact .cons r ih
theorem Vals.rev {xs : List V} {us : List Value} (h : Vals xs us) : Vals xs.reverse us.reverse := by
  induction h with
  | nil => exact .nil
  | cons r _ ih =>
    rw [List.reverse_cons, List.reverse_cons]
    exact Vals.app ih (.cons r .nil)
theorem items_rev {items acc : Array Value} (h : ItemsOf (fun i v => items[items.size - 1 - i]? = some v) acc items.size) : acc.toList = items.toList.reverse := by
  obtain ⟨h1, h2⟩ := h
  refine List.ext_getElem? fun i => ?_
  by_cases hi : i < items.size
  · have e : acc[i]? = some acc[i] := Array.getElem?_eq_getElem (by omega)
    have z := h2 i _ e
    rw [List.getElem?_reverse (by rw [Array.length_toList]; exact hi), Array.length_toList, Array.getElem?_toList, Array.getElem?_toList, e, z]
  · rw [List.getElem?_eq_none (by rw [Array.length_toList]; omega), List.getElem?_eq_none (by rw [List.length_reverse, Array.length_toList]; omega)]
section
variable {X : Cx} {e : Expr} {te : TE} {p p' pos pos' : Pos}
def tListRev (K : PySem.W.Frag) (te : TE) : TE := fun σ H Q => te σ H fun x H1 => ∃ a ys, x = .ref a ∧ SqL K H1 a ys ∧ ∀ l, H1 l = none → Q (.ref l) (upd H1 l (.lst ys.reverse))
theorem pe_listRev (hc : X.calm = true) (hg : Gl X "list") (hm : X.mg "list" = none) (hg' : Gl X "reversed") (hm' : X.mg "reversed" = none) (he : PE X e te)
    (h1 : starEach [e] X.env = [(false, eval e X.env)] := by rfl) (h2 : starEach [.Call (.Name "reversed" p') [e] [] pos'] X.env = [(false, eval (.Call (.Name "reversed" p') [e] [] pos') X.env)] := by rfl) :
    PE X (.Call (.Name "list" p) [.Call (.Name "reversed" p') [e] [] pos'] [] pos) (tListRev X.K te) := by
  intro pins s σ H Q I h
  refine wpAny_Call_Name_kw (ld_blt I hg hm boot_list ?_)
  refine PyProof.Rows.callWith_type1 ?_ h2 rfl
  rw [h2]
  show wpAny _ _ (spliced ((false, eval (.Call (.Name "reversed" p') [e] [] pos') X.env) :: [])) _ _ s
  refine Calls.spliced_cons ?_
  refine wpAny_Call_Name_kw (ld_blt I hg' hm' boot_reversed ?_)
  refine PyProof.Rows.callWith_type1 ?_ h1 rfl
  rw [h1]
  show wpAny _ _ (spliced ((false, eval e X.env) :: [])) _ _ s
  refine Calls.spliced_cons (thn (he pins s σ H _ I h) fun u s1 ⟨x, H1, I1, r1, q1⟩ => ?_)
  obtain ⟨a, ys, rfl, hq, q⟩ := q1
  cases r1
  obtain ⟨its, rv, pl, hz⟩ := I1.list hq
  have hlen := rv.length
  refine Calls.spliced_nil ?_
  refine call_reversed_list pl.isList ?_
  refine Calls.spliced_nil ?_
  have hla : a < s1.heap.objs.size := by
    obtain ⟨o, ho, _⟩ := pl.isList
    exact Heap.lt_size ho
  have hl' : (s1.heap.push (revObj a ((its.toArray.size : Int) - 1))).IsList a its.toArray := by
    obtain ⟨o, ho, hc', n, hd⟩ := pl.isList
    exact ⟨o, Heap.get?_push_of_some _ ho, hc', n, hd⟩
  refine call_list_rev (I1.ok.hd hc) (Nat.ne_of_lt hla) ⟨_, Heap.get?_push_size _ rfl, rfl, rfl⟩ hl' (by rw [List.size_toArray]; omega) fun h' tk acc' c' k e' it => ?_
  have er := items_rev it
  rw [List.toList_toArray] at er
  have kp : ∀ (b : Addr) (o : Obj), s1.heap.get? b = some o → h'.get? b = some o := fun b o hb => k b o (Nat.ne_of_lt (Heap.lt_size hb)) (Heap.get?_push_of_some _ hb)
  have sz : (s1.heap.push (revObj a ((its.toArray.size : Int) - 1))).objs.size = s1.heap.objs.size + 1 := by
    unfold Heap.push
    exact Array.size_push ..
  have hle : s1.heap.objs.size ≤ (s1.heap.push (revObj a ((its.toArray.size : Int) - 1))).objs.size := by omega
  refine ⟨.ref _, _, I1.laid (t' := tk) (o := .lst ys.reverse) kp hle ?_, rfl, q _ (I1.hok.fresh hle)⟩
  refine ⟨by rw [List.length_reverse]; exact hz, its.reverse, c', rv.rev, ?_⟩
  rw [e', ← er]
end
end L2
/-! EXTENSION N: comprehensions whose target is a tuple of names; lists joined that are only read; a mutable box. -/
namespace L2
open PySem PySem.Spec PyProof.Rows
structure CompScopeM (N : List Str) (sc : Scope) (N' : List Str) (ix : List Nat) (xs0 : List Str) (r : List Str) (cs : Scope) : Prop where
  eq : N' = xs0 ++ r
  kind : cs.kind = .function
  hcell : ∀ y ∈ cs.names, y.2 ≠ .cell
  hnames : ∀ y ∈ cs.names, y.2 = .local → cs.names.lookup y.1 = some .local
  nd : (xs0 ++ r).Nodup
  fr : ∀ y ∈ cs.names, y.2 = .free → sc.names.lookup y.1 = some .cell ∨ sc.names.lookup y.1 = some .free
  ixs : Ixs N sc cs r ix
def CompGoM (J : It) (n : Nat) (ρ : St) (g : TG) (tt : TT) (te : TE) (acc : Addr) (Z : Hp → Prop) (H1 : Hp) : Prop :=
  ∃ W : Nat → Nat → List V → Hp → Prop, (∃ m, W 0 m [] (upd H1 acc (.lst []))) ∧ ∀ i m xs H, W i m xs H →
    ((J.stop i H ∧ Z H) ∨ (J.go i H ∧ ∃ (Nx : V → Hp → Prop) (Nn : Hp → Prop), (∀ y H4, Nx y H4 → H4 acc = some (.lst xs) ∧ xs.length < sizeLine ∧ ∃ m', m' < m ∧ W (i + 1) m' (xs ++ [y]) (upd H4 acc (.lst (xs ++ [y])))) ∧
      (∀ H3, Nn H3 → ∃ m', m' < m ∧ W (i + 1) m' xs H3) ∧ ∀ (v0 : St) x H', v0.length = n → J.yld i H x H' → g x (v0 ++ ρ) H' fun σ2 H2 => (∃ v : St, v.length = n ∧ σ2 = v ++ ρ) ∧ tt σ2 H2 fun b H3 => if b = true then te σ2 H3 Nx else Nn H3))
section
variable {X : Cx} {pins : List (Addr × Obj)} {σ : St} {H : Hp} {s : Shared}
theorem Inv.compOkM {N' r : List Str} {ix : List Nat} {xs0 : List Str} {cs : Scope} {cl : List (Str × Addr)} {fp : List Addr} (I : Inv X pins σ H s) (S : CompScopeM X.N X.env.scope N' ix xs0 r cs)
    (h2 : ∀ y c, cl.lookup y = some c → X.env.cells.lookup y = some c) (h3 : ∀ y, (y, NameKind.free) ∈ cs.names → ∃ c, cl.lookup y = some c) (hf : ∀ b ∈ fp, FpOk X pins H b) (hfp : ∀ b ∈ fp, b < s.heap.objs.size) :
    (compCx X N' cs cl s H fp).Ok where
  mod := I.ok.mod
  kind := S.kind
  glob := I.ok.glob
  blt := I.ok.blt
  above := Nat.le_refl _
  inj := fun a b c ha hb => I.ok.inj a b c (h2 a c ha) (h2 b c hb)
  has := fun y hy => h3 y (hy.elim (fun z => relabel_free S.hcell z (.inl rfl)) fun z => relabel_free S.hcell z (.inr rfl))
  cab := fun _ _ z => nomatch z
  hd := I.ok.hd
  frames := I.ok.frames
  stk := .inl rfl
  exf := fun b hb => ⟨Nat.ne_of_lt (hfp b hb), fun y c e => (hf b hb).2.2.2.2.1 y c (h2 y c e)⟩
  bs := I.bs
  bsz := Nat.le_trans I.ok.bsz I.sz
  noex := fun b o e hb => by
    rcases (hf b hb).2.2.2.1 with z | z
    · exact I.ok.noex b o e z
    · exact absurd (Nat.lt_of_lt_of_le (Heap.lt_size e) (Nat.le_trans I.ok.bsz z)) (Nat.lt_irrefl _)
  exfs := fun b hb hs => by
    rcases List.mem_cons.mp (I.stkSub b hs) with z | z
    · exact (hf b hb).2.1 z
    · exact (hf b hb).2.2.1 z
  funs := I.stack
  frf := I.stkFree
theorem Inv.compStartM {N' r : List Str} {ix : List Nat} {xs0 : List Str} {cs : Scope} {cl : List (Str × Addr)} {fp : List Addr} {h1 : Heap} {tk : Nat} {m : Str → Option Value} (I : Inv X pins σ H s) (S : CompScopeM X.N X.env.scope N' ix xs0 r cs)
    (h2 : ∀ y c, cl.lookup y = some c → X.env.cells.lookup y = some c) (h3 : ∀ y, (y, NameKind.free) ∈ cs.names → ∃ c, cl.lookup y = some c) (hf : ∀ b ∈ fp, FpOk X pins H b) (hfp : ∀ b ∈ fp, b < s.heap.objs.size)
    (hn : h1.Ns s.heap.objs.size m) (hk : ∀ b o, s.heap.get? b = some o → h1.get? b = some o) :
    Inv (compCx X N' cs cl s H fp) [] (List.replicate xs0.length none ++ slotsAt σ ix) H { s with heap := h1, toks := tk } := by
  have ok := I.compOkM (N' := N') (fp := fp) S h2 h3 hf hfp
  obtain ⟨mo, hno, hlo⟩ := id I.loc
  refine ⟨ok, rfl, I.bare, Un.kept hk, ⟨m, hn, fun i y v e1 e2 e3 => ?_⟩, fun y c e => ?_, I.hok.fresh (Nat.le_refl _), fun y c e => I.freeC y c (h2 y c e), fun p hp => absurd (show p ∈ ([] : List (Addr × Obj)) from hp) (by simp), I.hok.kept hk, ?_⟩
  · by_cases hi : i < xs0.length
    · rw [List.getElem?_append_left (by rw [List.length_replicate]; exact hi), List.getElem?_replicate, if_pos hi] at e2
      cases e2
    · have e1' : r[i - xs0.length]? = some y := by
        have : N'[i]? = some y := e1
        rw [S.eq, List.getElem?_append_right (by omega)] at this
        exact this
      have e2 : (slotsAt σ ix)[i - xs0.length]? = some (some v) := by
        rw [List.getElem?_append_right (by rw [List.length_replicate]; omega), List.length_replicate] at e2
        exact e2
      obtain ⟨j, j1, j2, j3, j4⟩ := S.ixs.get e1'
      obtain ⟨j', k1, k2⟩ := slotsAt_get (σ := σ) (ix := ix) (i := i - xs0.length) (v := v) e2
      rw [j1] at k1; cases k1
      obtain ⟨u, ru, lk⟩ := hlo j y v j2 k2 (j3.elim (fun z => .inr (.inl z)) fun z => .inr (.inr z))
      refine ⟨u, ru, ?_⟩
      obtain ⟨c, hc⟩ := h3 y (PySem.mem_of_lookup j4)
      rcases lk with ⟨k, _⟩ | ⟨k, c', e', z⟩
      · have k' : X.env.scope.names.lookup y = some .local := k
        rcases j3 with q | q <;> (rw [q] at k'; cases k')
      · rw [h2 y c hc] at e'
        cases e'
        refine .inr ⟨?_, c, hc, ?_⟩
        · exact lookup_relabel_free (env := X.env) j4
        · obtain ⟨o, ho, hd⟩ := z
          exact ⟨o, hk c o ho, hd⟩
  · obtain ⟨v, o, ho, hd⟩ := I.cell y c (h2 y c e)
    exact ⟨v, o, hk c o ho, hd⟩
  · show (List.replicate xs0.length none ++ slotsAt σ ix).length = N'.length
    rw [S.eq, List.length_append, List.length_append, List.length_replicate, S.ixs.len]
    unfold slotsAt
    rw [List.length_map]

theorem comp_coreM {N' r : List Str} {ix : List Nat} {xs0 : List Str} {cs : Scope} {cl : List (Str × Addr)} {tg iter elt : Expr} {ifs : List Expr} {pos : Pos} {J : It} {fp : List Addr} {it : Addr} {tn : Nat → Heap → Prop} {g : TG} {tt : TT} {te : TE} {Z : Addr → Hp → Prop}
    {RR : Value → Addr → Result → Shared → Prop} {E : Value → Shared → Prop}
    (I : Inv X pins σ H s) (hc : X.calm = true) (S : CompScopeM X.N X.env.scope N' ix xs0 r cs) (h2 : ∀ y c, cl.lookup y = some c → X.env.cells.lookup y = some c) (h3 : ∀ y, (y, NameKind.free) ∈ cs.names → ∃ c, cl.lookup y = some c)
    (T : Turn X.prog X.w X.K tg J fp it tn) (st : tn 0 s.heap) (hf : ∀ b ∈ fp, FpOk X pins H b)
    (hg : ∀ s3 H3, PG (compCx X N' cs cl s3 H3 fp) tg g) (ht : ∀ s3 H3, PTs (compCx X N' cs cl s3 H3 fp) ifs tt) (he : ∀ s3 H3, PE (compCx X N' cs cl s3 H3 fp) elt te)
    (go : ∀ acc, H acc = none → CompGoM J xs0.length (slotsAt σ ix) g tt te acc (Z acc) H)
    (fin : ∀ acc C s' H' m, Inv X pins σ H' s' → FpOk X pins H' C → s'.heap.Ns C m → Z acc H' → RR (.ref acc) C (.ok .next) s') :
    wpAny (model X.prog X.w) X.A (newList []) (fun acc s₃ => wpAny (model X.prog X.w) X.A (newFunctionEnv cs X.env.globals cl [] X.env.qual none .none (some X.env)) (fun cenv s₄ =>
      codeAny (model X.prog X.w) X.A (.compStart (.ListComp elt [⟨tg, iter, ifs, 0⟩] cs pos) 0 (.ref it) acc { cenv with scope := relabel cs X.env }) (RR acc cenv.locals) s₄) E s₃) E s := by
  refine wpAny_newObj_type (wpAny_newFunctionEnv S.hcell (by intro y hy; simp at hy) (fun h₁ hns₁ hsb₁ => ?_) S.kind)
  dsimp only at hns₁ hsb₁ ⊢
  have hfs : ∀ b ∈ fp, b < s.heap.objs.size := fun b hb => by
    obtain ⟨o, e, _⟩ := T.obj _ _ st b hb
    exact Heap.lt_size e
  have I3 : Inv X pins σ (upd H s.heap.objs.size (.lst [])) { s with heap := s.heap.push { cls := .type "list", data := .seq ([] : List Value).toArray } } := I.lnew (its := []) (t' := s.toks) .nil (Nat.zero_le _)
  have nacc : H s.heap.objs.size = none := I.fresh
  have hf3 : ∀ b ∈ fp, FpOk X pins (upd H s.heap.objs.size (.lst [])) b := fun b hb => ⟨by rw [upd_ne (Nat.ne_of_lt (hfs b hb))]; exact (hf b hb).1, (hf b hb).2⟩
  have hfs3 : ∀ b ∈ fp, b < (s.heap.push { cls := .type "list", data := .seq ([] : List Value).toArray }).objs.size := fun b hb => by
    rw [Heap.size_push]; exact Nat.lt_succ_of_lt (hfs b hb)
  generalize hs3 : ({ s with heap := s.heap.push { cls := .type "list", data := .seq ([] : List Value).toArray } } : Shared) = s3 at I3
  generalize hH3 : upd H s.heap.objs.size (.lst []) = H3 at I3 hf3
  have eh : s.heap.push { cls := .type "list", data := .seq ([] : List Value).toArray } = s3.heap := by rw [← hs3]
  rw [eh] at hns₁ hsb₁ hfs3
  have kp : ∀ b o, s3.heap.get? b = some o → h₁.get? b = some o := fun b o e => hsb₁.extBut b o (Nat.ne_of_lt (Heap.lt_size e)) (Heap.get?_push_of_some _ e)
  have I4 : Inv (compCx X N' cs cl s3 H3 fp) [] (List.replicate xs0.length none ++ slotsAt σ ix) H3 { s3 with heap := h₁, toks := s3.toks + ([] : List (Str × Value)).length } :=
    I3.compStartM S h2 h3 hf3 hfs3 hns₁ kp
  have kp2 : ∀ b o, s.heap.get? b = some o → h₁.get? b = some o := fun b o e => kp b o (by rw [← eh]; exact Heap.get?_push_of_some _ e)
  have st4 : tn 0 h₁ := T.keep _ _ _ st fun b hb o e => kp2 b o e
  obtain ⟨W, ⟨m0, w0⟩, turn⟩ := go s.heap.objs.size nacc
  rw [hH3] at w0
  have stat : ∀ {H' : Hp}, (∀ b ∈ fp, H' b = none) → ∀ b ∈ fp, FpOk (compCx X N' cs cl s3 H3 fp) [] H' b := fun hn b hb =>
    ⟨hn b hb, Nat.ne_of_lt (hfs3 b hb), fun hs => by
      rcases List.mem_cons.mp (I.stkSub b hs) with z | z
      · exact (hf b hb).2.1 z
      · exact (hf b hb).2.2.1 z, .inl hb, fun y c e => (hf b hb).2.2.2.2.1 y c (h2 y c e), fun p hp => absurd (show p ∈ ([] : List (Addr × Obj)) from hp) (by simp)⟩
  have es : s3.heap.objs.size = s.heap.objs.size + 1 := by rw [← eh, Heap.size_push]
  have loop : codeAny (model X.prog X.w) X.A (.compLoop (.ListComp elt [⟨tg, iter, ifs, 0⟩] cs pos) 0 (.ref it) (.ref s.heap.objs.size) (compCx X N' cs cl s3 H3 fp).env)
      (RR (.ref s.heap.objs.size) s3.heap.objs.size) { s3 with heap := h₁, toks := s3.toks + ([] : List (Str × Value)).length } := by
    refine compLoop_any (fun n s' => ∃ i v0 H' xs, v0.length = xs0.length ∧ Inv (compCx X N' cs cl s3 H3 fp) [] (v0 ++ slotsAt σ ix) H' s' ∧ tn i s'.heap ∧ (∀ b ∈ fp, H' b = none) ∧ W i n xs H') ?_ m0
      ⟨0, List.replicate xs0.length none, H3, [], List.length_replicate, I4, st4, fun b hb => (hf3 b hb).1, w0⟩
    rintro n s5 ⟨i, v0, H5, xs, l5, I5, st5, fr5, w5⟩
    rcases turn i n xs H5 w5 with ⟨stop, q⟩ | ⟨hgo, Nx, Nn, hNx, hNn, step⟩
    · refine thn (T.done (compCx X N' cs cl s3 H3 fp) rfl rfl rfl hc i [] s5 _ H5 _ I5 (stat fr5) st5 stop) fun r' s6 ⟨hr, I6⟩ => ?_
      subst hr
      have u : Un (frs X.stack) fp H H5 s.heap s6.heap := by
        refine Un.trans (H1 := H3) (h1 := s3.heap) ?_ I6.base
        rw [← hH3, ← eh]
        exact Un.laid (fun _ _ q => Heap.get?_push_of_some _ q) (Nat.le_refl _) nacc
      have e3 : s3.os = s.os := by rw [← hs3]
      have os6 : s6.os = s.os := I6.os.trans e3
      have J6 : Inv X pins σ H5 s6 := I.call' os6 u I6.hok I6.bare fun b hb => ⟨(hf b hb).2.2.2.1, (hf b hb).2.1, (hf b hb).2.2.2.2.1, (hf b hb).2.2.2.2.2⟩
      obtain ⟨m6, n6, _⟩ := I6.loc
      exact fin _ _ s6 H5 m6 J6 (I.fpOk (by rw [es]; exact Nat.le_succ _) I6.free) n6 q
    · refine thn (T.item (compCx X N' cs cl s3 H3 fp) rfl rfl rfl hc i [] s5 _ H5 _ I5 (stat fr5) st5 hgo) fun r' s6 ⟨u, hr, h6⟩ => ?_
      subst hr
      refine thn h6 fun _ s7 ⟨y, H7, I7, r7, y7, st7, fr7⟩ => ?_
      have I7' := I7.pinned (stat fr7) (T.obj _ _ st7)
      refine wpAny_mono (hg s3 H3 _ s7 _ H7 y u _ I7' r7 (step v0 y H7 l5 y7)) (fun _ s8 ⟨σ8, H8, I8, ⟨v8, l8, e8⟩, q8⟩ => ?_) fun _ _ z => z.elim
      subst e8
      have back : ∀ {s9 : Shared} {H9 : Hp} {m' : Nat} {xs' : List V}, Inv (compCx X N' cs cl s3 H3 fp) ([] ++ pinsAt fp s7.heap) (v8 ++ slotsAt σ ix) H9 s9 → m' < n → W (i + 1) m' xs' H9 →
          ∃ m, m < n ∧ ∃ i v0 H' xs, v0.length = xs0.length ∧ Inv (compCx X N' cs cl s3 H3 fp) [] (v0 ++ slotsAt σ ix) H' s9 ∧ tn i s9.heap ∧ (∀ b ∈ fp, H' b = none) ∧ W i m xs H' := fun {s9 H9 m' xs'} I9 hm w9 =>
        ⟨m', hm, i + 1, v8, H9, xs', l8, I9.unpinned, T.keep _ _ _ st7 fun b hb o e => (I9.pin (b, o) (List.mem_append_right _ (List.mem_append_right _ (mem_pinsAt hb e)))).1, fun b hb => by
          obtain ⟨o, e, d⟩ := T.obj _ _ st7 b hb
          exact (I9.pin (b, o) (List.mem_append_right _ (List.mem_append_right _ (mem_pinsAt hb e)))).2.1, w9⟩
      refine thn (ht s3 H3 _ _ s8 _ H8 _ (fun _ _ z => z.elim) I8 q8) fun b s9 ⟨H9, I9, q9⟩ => ?_
      cases b with
      | false =>
        rw [if_neg Bool.false_ne_true] at q9 ⊢
        obtain ⟨m', hm, w9⟩ := hNn H9 q9
        exact back I9 hm w9
      | true =>
        rw [if_pos rfl] at q9 ⊢
        refine wpAny_mono (he s3 H3 _ s9 _ H9 _ I9 q9) (fun u2 s10 ⟨y2, H10, I10, r10, q10⟩ => ?_) fun _ _ z => z.elim
        obtain ⟨a10, z10, m', hm, w10⟩ := hNx y2 H10 q10
        refine wpAny_mono (mt_append (X := compCx X N' cs cl s3 H3 fp) _ s10 _ H10 (.ref s.heap.objs.size) [y2] (.ref s.heap.objs.size) [u2] (fun _ H' => H' = upd H10 s.heap.objs.size (.lst (xs ++ [y2]))) I10 rfl (.cons r10 .nil) ⟨_, xs, y2, rfl, rfl, a10, z10, rfl⟩) (fun _ s11 ⟨_, H11, I11, _, e11⟩ => ?_) fun _ _ z => z.elim
        subst e11
        exact back I11 hm w10
  subst hs3
  exact codeAny_compStart_list loop (T.self X.A 0 _ _ _ st4 loop)
end
section
variable {X : Cx} {N' r xs0 : List Str} {ix : List Nat} {cs : Scope} {tg iter elt : Expr} {ifs : List Expr} {pos : Pos} {wi : TI} {g : TG} {tt : TT} {te : TE}
def tCompM (wi : TI) (ix : List Nat) (n : Nat) (g : TG) (tt : TT) (te : TE) : TE := fun σ H Q => wi σ H fun J H1 => ∀ acc, H1 acc = none → CompGoM J n (slotsAt σ ix) g tt te acc (fun H' => Q (.ref acc) H') H1
theorem CompScopeM.clos {sc : Scope} {N : List Str} (S : CompScopeM N sc N' ix xs0 r cs) {env : Env} (he : env.scope = sc) (has : ∀ y, (env.kindOf y = some .cell ∨ env.kindOf y = some .free) → ∃ c, env.cells.lookup y = some c) :
    ∃ cl : List (Str × Addr), closureFor cs env = pure cl ∧ (∀ y c, cl.lookup y = some c → env.cells.lookup y = some c) ∧ (∀ y, (y, NameKind.free) ∈ cs.names → ∃ c, cl.lookup y = some c) :=
  closure_ok fun y hy hk => has y.1 (by
    subst he
    exact S.fr y hy hk)
end
section
variable {K : PySem.W.Frag} {ta : TA} {tl : TE} {ix : List Nat} {n : Nat} {g : TG} {tt : TT} {te : TE} {σ : St} {H : Hp} {Q : VK}
theorem tCompM_L : tCompM (iList K tl) ix n g tt te σ H Q = tl σ H fun x H1 => ∃ a, x = .ref a ∧ (∃ xs, SqL K H1 a xs) ∧ ∀ acc, H1 acc = none → CompGoM (Itl K a) n (slotsAt σ ix) g tt te acc (fun H' => Q (.ref acc) H') H1 := rfl
end
section
variable {X : Cx}
def rCatQ (K : PySem.W.Frag) : R2 := fun x y H Q => ∃ l b xs zs, x = .ref l ∧ y = .ref b ∧ SqL K H l xs ∧ SqL K H b zs ∧ xs.length + zs.length ≤ sizeLine ∧ ∀ p, H p = none → Q (.ref p) (upd H p (.lst (xs ++ zs)))
end
theorem call_tupleL {X : Cx} : CallR X (.type "tuple") (fun xs H Q => ∃ p ys, xs = [.ref p] ∧ SqL X.K H p ys ∧ ∀ l, H l = none → Q (.ref l) (upd H l (.tup ys))) := fun pins s σ H xs us Q I r ⟨p, ys, e, k, q⟩ => call_tuple_of pins s σ H xs us Q I r ⟨p, ys, e, .inl ⟨k, q⟩⟩
theorem pg_tupK {X : Cx} {K : PySem.W.Frag} {es : List Expr} {k : Nat} {t : TGs} {n : Nat} {pos : Pos} (hK : X.K = K) (hc : X.calm = true) (h : PGs X es t)
    (hn : (assignEach es X.env).length = n := by rfl) (hst : (assignEach es X.env).findIdx? (·.1) = none := by rfl) : PG X (.Tuple es k pos) (gTup K n t) := hK ▸ pg_tup hc h hn hst
/-- all but the box at L stays -/
def SameB (L : Addr) (H H' : Hp) : Prop := ∀ b o, b ≠ L → H b = some o → H' b = some o
theorem SameB.refl (L : Addr) (H : Hp) : SameB L H H := fun _ _ _ h => h
theorem SameB.trans {L : Addr} {H H' J : Hp} (s : SameB L H H') (t : SameB L H' J) : SameB L H J := fun b o n h => t b o n (s b o n h)
theorem Same.b {L : Addr} {H H' : Hp} (s : Same H H') : SameB L H H' := fun b o _ h => s b o h
theorem SameB.acc {L acc : Addr} {H H' : Hp} {o : HO} (s : SameB L H H') (h : H acc = none) : SameB L H (upd H' acc o) := fun b u n q => by rw [upd_ne (ne_of_none q h)]; exact s b u n q
theorem SameB.box {L : Addr} {H H' : Hp} {o : HO} (s : SameB L H H') : SameB L H (upd H' L o) := fun b u n q => by rw [upd_ne n]; exact s b u n q
theorem SameB.none {L b : Addr} {H H' : Hp} (s : SameB L H H') (n : b ≠ L) (h : H' b = none) : H b = none := by
  cases e : H b with
  | none => rfl
  | some o => rw [s b o n e] at h; cases h
theorem SameB.set {L : Addr} {H : Hp} {o : HO} : SameB L H (upd H L o) := fun b u n h => by rw [upd_ne n]; exact h
end L2
/-! # xs[::-1] -/
namespace L2
open PySem PyProof.Rows PySem.Calls
section
variable {X : Cx} {e st : Expr} {te ts : TE} {pos p2 : Pos}
def tSlRev (K : PySem.W.Frag) (te ts : TE) : TE := fun σ H Q => te σ H fun x H1 => ts σ H1 fun k H2 => k = .int (-1) ∧ ∃ a xs, x = .ref a ∧ SqL K H2 a xs ∧ ∀ p, H2 p = none → Q (.ref p) (upd H2 p (.lst xs.reverse))
end
end L2
/-! # range(i, j, c) -/
namespace L2
open PySem PySem.Spec PyProof.Rows
section
variable {X : Cx} {tg : Expr}
def It3 (lo c : Int) (n : Nat) : It := ⟨fun i _ => i < n, fun i H x H' => H' = H ∧ x = .int (lo + i * c), fun i _ => n ≤ i⟩
def iRng3 (ta : TA) : TI := fun σ H R => ta σ H fun vs H1 => ∃ i j c : Int, vs = [.int i, .int j, .int c] ∧ (-(2 ^ 30) ≤ i ∧ i < 2 ^ 30 ∧ -(2 ^ 30) ≤ j ∧ j < 2 ^ 30 ∧ 1 ≤ c ∧ c < 2 ^ 30) ∧ R (It3 i c (Builtin.Range.rangeSize i j c).toNat) H1
end
section
variable {ρ : St} {te : TE} {acc : Addr} {Z : Hp → Prop} {H1 : Hp}
end
end L2
namespace L2
section
variable {K : PySem.W.Frag} {tl : TE} {ta : TA} {ix : List Nat} {g : TG} {tt : TT} {te : TE} {σ : St} {H : Hp} {Q : VK}
theorem tComp_R3 : tComp (iRng3 ta) ix g tt te σ H Q = ta σ H fun vs H1 => ∃ i j c : Int, vs = [.int i, .int j, .int c] ∧ (-(2 ^ 30) ≤ i ∧ i < 2 ^ 30 ∧ -(2 ^ 30) ≤ j ∧ j < 2 ^ 30 ∧ 1 ≤ c ∧ c < 2 ^ 30) ∧ ∀ acc, H1 acc = none → CompGo (It3 i c (PySem.Builtin.Range.rangeSize i j c).toNat) (slotsAt σ ix) g tt te acc (fun H' => Q (.ref acc) H') H1 := rfl
end
end L2
/-! EXTENSION Q: comprehensions whose own name is read by a block within (a cell of the comprehension's block). -/
namespace L2
open PySem PySem.Spec PyProof.Rows
structure CfOk (n : Nat) (cs : List (Str × Addr)) : Prop where
  lt : ∀ y c, cs.lookup y = some c → c < n
  inj : ∀ x y c, cs.lookup x = some c → cs.lookup y = some c → x = y
structure CompScopeC (N : List Str) (sc : Scope) (N' : List Str) (ix : List Nat) (x : Str) (r : List Str) (cs : Scope) : Prop where
  eq : N' = x :: r
  kind : cs.kind = .function
  hown : ∀ y ∈ cs.names, y.2 = .cell → cs.names.lookup y.1 = some .cell
  hnames : ∀ y ∈ cs.names, y.2 = .local → cs.names.lookup y.1 = some .local
  nd : (x :: r).Nodup
  fr : ∀ y ∈ cs.names, y.2 = .free → sc.names.lookup y.1 = some .cell ∨ sc.names.lookup y.1 = some .free
  ixs : Ixs N sc cs r ix
def compCxC (X : Cx) (N' : List Str) (cs : Scope) (cl : List (Str × Addr)) (s3 : Shared) (H3 : Hp) (fp : List Addr) : Cx :=
  { X with N := N', s₀ := s3, H₀ := H3, env := compEnvC cs (cellsFrom (s3.heap.objs.size + 1) cs.names cl) s3.heap.objs.size X.env, outer := X.stack, stack := X.stack, ex := fp, fn := fun y => cs.names.lookup y == some .cell, pn := [], xe := fun _ _ => False }
section
variable {X : Cx} {pins : List (Addr × Obj)} {σ : St} {H : Hp} {s : Shared}
end

section
variable {X : Cx} {N' r : List Str} {ix : List Nat} {x : Str} {cs : Scope} {tg iter elt : Expr} {ifs : List Expr} {pos : Pos} {wi : TI} {g : TG} {tt : TT} {te : TE}
theorem CompScopeC.clos {sc : Scope} {N : List Str} (S : CompScopeC N sc N' ix x r cs) {env : Env} (he : env.scope = sc) (has : ∀ y, (env.kindOf y = some .cell ∨ env.kindOf y = some .free) → ∃ c, env.cells.lookup y = some c) :
    ∃ cl : List (Str × Addr), closureFor cs env = pure cl ∧ (∀ y c, cl.lookup y = some c → env.cells.lookup y = some c) ∧ (∀ y, (y, NameKind.free) ∈ cs.names → ∃ c, cl.lookup y = some c) :=
  closure_ok fun y hy hk => has y.1 (by
    subst he
    exact S.fr y hy hk)
end
end L2
namespace L2
open PySem PyProof.Rows
section
variable {X : Cx} {K : PySem.W.Frag} {tg l : Expr} {tl : TE}
end
end L2
/-! EXTENSION R: for k, x in enumerate(xs). -/
namespace L2
open PySem PySem.Spec PyProof.Rows
section
variable {X : Cx} {pins : List (Addr × Obj)} {σ : St} {H : Hp} {s : Shared} {h' : Heap}
/-- iterators turned: only the records at ch changed -/
theorem Inv.turnedL {t' : Nat} {ch : List Addr} (I : Inv X pins σ H s) (k : ∀ b o, b ∉ ch → s.heap.get? b = some o → h'.get? b = some o) (hf : ∀ b ∈ ch, FpOk X pins H b) : Inv X pins σ H { s with heap := h', toks := t' } := by
  have nit : ∀ b u, H b = some u → b ∉ ch := fun b u e z => by rw [(hf b z).1] at e; cases e
  refine I.step (g' := s.gens) (d' := s.drawn) (ch := ch) (fun b hb => ⟨(hf b hb).2.2.2.1, (hf b hb).2.1, (hf b hb).2.2.2.2.1, (hf b hb).2.2.2.2.2⟩) (fun b o _ _ hc e _ => k b o hc e) (fun b o _ _ hc e _ => ⟨o.slots, k b o hc e⟩) (fun _ _ _ _ n => n)
    (fun b o hc e => ⟨o, k b o hc e⟩) (fun _ _ e => e) (fun _ _ _ e => e) (fun b ps e => ⟨#[], by rw [e]; simp⟩) (fun m hm => ?_) (fun b u e => ?_) I.bare
  · obtain ⟨o, es, ep, ho, r⟩ := hm
    exact ⟨o, es, ep, k _ o (fun z => (hf _ z).2.1 rfl) ho, r⟩
  · refine (I.hok b u e).stay (fun c v hc q => k c v ?_ q) (fun _ q => q) fun _ _ q => q
    rcases hc with z | z
    · rw [z]; exact nit b u e
    · exact nit c _ z
end
/-- (0, x), (1, y), .. of the list at a: a new tuple each turn -/
def Ite (K : PySem.W.Frag) (a : Addr) : It :=
  ⟨fun i H => ∃ xs x, SqL K H a xs ∧ xs[i]? = some x, fun i H x H' => ∃ T v, x = .ref T ∧ H T = none ∧ H' = upd H T (.tup [.int i, v]) ∧ ∀ xs, SqL K H a xs → xs[i]? = some v, fun i H => ∃ xs, SqL K H a xs ∧ xs.length ≤ i⟩
theorem turn_enum {P : Program} {w : World} {K : PySem.W.Frag} {elts : List Expr} {x1 : Nat} {tpos : Pos} (a e it : Addr) (hei : e ≠ it) : Turn P w K (.Tuple elts x1 tpos) (Ite K a) [e, it] e (fun i h => (∃ old, IsEnum h e it (i : Nat) old) ∧ h.IsListIter it a i) where
  mem := by simp
  obj := fun i h st b hb => by
    obtain ⟨⟨old, he⟩, o, e1, c, d⟩ := st
    rcases List.mem_cons.mp hb with rfl | hb
    · exact ⟨_, he, fun v z => by
        have z' : Data.fields _ = Data.cell v := z
        cases z'⟩
    · have e2 : b = it := by simpa using hb
      subst e2
      exact ⟨o, e1, fun v z => by rw [d] at z; cases z⟩
  keep := fun i h h' st k => by
    obtain ⟨⟨old, he⟩, hi⟩ := st
    exact ⟨⟨old, k e (by simp) _ he⟩, hi.at fun o q => k it (by simp) o q⟩
  item := by
    intro X hP hw hK hc i pins s σ H E I hf st hg
    subst hP hw hK
    obtain ⟨⟨old, he⟩, hit⟩ := st
    obtain ⟨xs, x, hq, hx⟩ := hg
    obtain ⟨its, rv, p, hz⟩ := I.list hq
    obtain ⟨u, hu, ru⟩ := rv.get hx
    have heS : e < s.heap.objs.size := Heap.lt_size he
    have hiS : it < s.heap.objs.size := by
      obtain ⟨o, e1, _⟩ := id hit
      exact Heap.lt_size e1
    refine wpAny_pyNext_enum_item he hit p.isList (x := u) (by simpa using hu) hei fun h₁ heo hit₁ ht₁ hz₁ hk₁ => ?_
    refine ⟨_, rfl, wpAny_letOwnedTupleGo_enum heo fun h₂ he₂ hs₂ => ?_⟩
    have fr : H s.heap.objs.size = none := I.hok.fresh (Nat.le_refl _)
    have I1 : Inv X pins σ (upd H s.heap.objs.size (.tup [.int i, x])) { s with heap := s.heap.push { cls := .type "tuple", data := .seq #[.int i s.toks, u] } } :=
      I.laid (t' := s.toks) (fun b o q => Heap.get?_push_of_some _ q) (Nat.le_refl _) ⟨(show 2 ≤ sizeLine by decide), [.int i s.toks, u], .cons ⟨_, rfl⟩ (.cons ru .nil), ⟨_, Heap.get?_push_size _ rfl, rfl, _, rfl⟩⟩
    have nT : ∀ b ∈ [e, it], b ≠ s.heap.objs.size := fun b hb => by
      rcases List.mem_cons.mp hb with rfl | hb
      · exact Nat.ne_of_lt heS
      · have e2 : b = it := by simpa using hb
        rw [e2]
        exact Nat.ne_of_lt hiS
    have hf1 : ∀ b ∈ [e, it], FpOk X pins (upd H s.heap.objs.size (.tup [.int i, x])) b := fun b hb => ⟨by rw [upd_ne (nT b hb)]; exact (hf b hb).1, (hf b hb).2⟩
    have I2 : Inv X pins σ (upd H s.heap.objs.size (.tup [.int i, x])) { s with heap := h₂, toks := s.toks + 1 } := Inv.turnedL (s := { s with heap := s.heap.push { cls := .type "tuple", data := .seq #[.int i s.toks, u] } }) (h' := h₂) (t' := s.toks + 1) (ch := [e, it]) I1 (fun b o hb q => by
      have nb1 : b ≠ e := fun z => hb (by simp [z])
      have nb2 : b ≠ it := fun z => hb (by simp [z])
      refine hs₂.extBut b o nb1 ?_
      have q2 : (s.heap.push { cls := .type "tuple", data := .seq #[.int i s.toks, u] }).get? b = some o := q
      rcases Heap.get?_push_cases q2 with ⟨rfl, rfl⟩ | q'
      · exact ht₁
      · exact hk₁ b o nb1 nb2 q') hf1
    refine ⟨.ref s.heap.objs.size, _, I2, rfl, (show (Ite X.K a).yld i H _ _ from ⟨_, x, rfl, fr, rfl, fun ys hy => by rw [I.list_inj hy hq]; exact hx⟩), ⟨⟨u, ?_⟩, hit₁.extBut hs₂.extBut (Ne.symm hei)⟩, fun b hb => (hf1 b hb).1⟩
    exact he₂
  done := by
    intro X hP hw hK hc i pins s σ H E I hf st hg
    subst hP hw hK
    obtain ⟨⟨old, he⟩, hit⟩ := st
    obtain ⟨xs, hq, hx⟩ := hg
    obtain ⟨its, rv, p, hz⟩ := I.list hq
    have hl := rv.length
    exact wpAny_pyNext_enum_end (I.ok.hd hc) he hit p.isList (by simp; omega) fun h' eb => ⟨rfl, I.turnedL (ch := [it]) (t' := s.toks) (fun b o hb q => eb b o (fun z => hb (by simp [z])) q) fun b hb => hf b (by simp at hb; simp [hb])⟩
  self := fun _ _ _ _ _ st h => by
    obtain ⟨⟨old, he⟩, _⟩ := st
    exact wpAny_pyIter_enum he h
section
variable {X : Cx} {elts : List Expr} {x1 : Nat} {tpos : Pos}
def iEnum (K : PySem.W.Frag) (ta : TA) : TI := fun σ H R => ta σ H fun vs H1 => ∃ a, vs = [.ref a] ∧ (∃ xs, SqL K H1 a xs) ∧ R (Ite K a) H1
theorem pi_enum {l : Expr} {ta : TA} {p pos : Pos} (hg : Gl X "enumerate") (hm : X.mg "enumerate" = none) (ha : PA X [l] ta) (hs : starEach [l] X.env = [(false, eval l X.env)] := by rfl) : PI X (.Tuple elts x1 tpos) (.Call (.Name "enumerate" p) [l] [] pos) (iEnum X.K ta) := by
  intro pins s σ H R I h
  refine Call_ (ld_blt I hg hm boot_enumerate (PyProof.Rows.callWith_type1 (thn (ha pos pins s σ H _ I h) fun us s1 ⟨vs, H1, I1, r1, q1⟩ => ?_) hs rfl))
  obtain ⟨a, e, ⟨xs, hq⟩, q⟩ := q1
  subst e
  cases r1 with
  | cons r rr =>
    cases rr
    cases r
    obtain ⟨its, rv, pl, hz⟩ := I1.list hq
    refine call_enumerate_list pl.isList fun h' he hit hsz hk => ?_
    refine wpAny_pyIter_enum he ?_
    have I2 : Inv X pins σ H1 { s1 with heap := h' } := I1.kept (t' := s1.toks) hk
    refine ⟨s1.heap.objs.size + 1, [s1.heap.objs.size + 1, s1.heap.objs.size], _, _, H1, rfl, I2, turn_enum a _ _ (Nat.succ_ne_self _), ⟨⟨_, he⟩, hit⟩, fun b hb => ?_, q⟩
    rcases List.mem_cons.mp hb with rfl | hb
    · exact I1.fpOk (Nat.le_succ _) (I1.hok.fresh (Nat.le_succ _))
    · have e2 : b = s1.heap.objs.size := by simpa using hb
      subst e2
      exact I1.fpOk (Nat.le_refl _) (I1.hok.fresh (Nat.le_refl _))
end
section
variable {K : PySem.W.Frag} {ta : TA} {tl : TE} {g : TG} {tb : TS} {D : Ends} {σ : St} {H : Hp}
theorem tFor_E : tFor (iEnum K ta) g tb D σ H = ta σ H fun vs H1 => ∃ a, vs = [.ref a] ∧ (∃ xs, SqL K H1 a xs) ∧ ForG (Ite K a) g tb D σ H1 := rfl
theorem for_enum {a : Addr} {xs : List V} (Pv : Nat → St → Hp → Prop) (h0 : Pv 0 σ H) (hl : ∀ i σ H, i ≤ xs.length → Pv i σ H → SqL K H a xs)
    (hs : ∀ i x σ H T, xs[i]? = some x → Pv i σ H → H T = none → g (.ref T) σ (upd H T (.tup [.int i, x])) fun σ2 H2 => tb { D with nx := Pv (i + 1), ct := Pv (i + 1), bk := D.nx } σ2 H2) (hd : ∀ σ H, Pv xs.length σ H → D.nx σ H) :
    ForG (Ite K a) g tb D σ H := by
  refine ⟨fun i m σ H => m = xs.length - i ∧ i ≤ xs.length ∧ Pv i σ H, ⟨xs.length, by simp, Nat.zero_le _, h0⟩, ?_⟩
  rintro i m σ H ⟨rfl, hi, p⟩
  have q := hl i σ H hi p
  by_cases h : i < xs.length
  · refine .inr ⟨⟨xs, xs[i], q, List.getElem?_eq_getElem h⟩, Pv (i + 1), fun σ' H' z => ⟨xs.length - (i + 1), by omega, rfl, by omega, z⟩, ?_⟩
    rintro x H' ⟨T, v, rfl, hT, rfl, hv⟩
    have e := hv xs q
    exact hs i v σ H T e p hT
  · have e : i = xs.length := by omega
    subst e
    exact .inl ⟨⟨xs, q, Nat.le_refl _⟩, hd σ H p⟩
end
end L2
/-! # x not in xs, of data: the answer is not told -/
namespace L2
open PySem PySem.Spec PyProof.Rows
section
variable {X : Cx}
def rNotInQ (K : PySem.W.Frag) : R2 := fun x y H Q => ∃ p xs, y = .ref p ∧ SqL K H p xs ∧ (∃ dx, Rds K H x dx ∧ PyData.canLay0 dx = true ∧ dx.depth ≤ 8) ∧ (∀ v ∈ xs, ∃ d, Rds K H v d ∧ PyData.canLay0 d = true ∧ d.depth ≤ 8) ∧ ∀ k, Q (.bl k) H
theorem op_notInQ (hu : X.A.units + 64 < cLine) : OpR X (compareOp .NotIn) (rNotInQ X.K) := by
  intro pins s σ H x y v u Q I rx ry h
  obtain ⟨p, xs, rfl, hq, ⟨dx, hdx, cx, dpx⟩, hs, q⟩ := h
  cases ry
  obtain ⟨its, r, pl, hz⟩ := I.list hq
  obtain ⟨as, rdx⟩ := hdx.reads I rx
  have hex : ∀ w ∈ its, ∃ b, SeqAt.EqAt X.A.in1 s w v b := fun w hw => by
    obtain ⟨i, hi⟩ := List.getElem?_of_mem hw
    have hl := r.length
    have hi2 : i < xs.length := by have := (List.getElem?_eq_some_iff.mp hi).1; omega
    obtain ⟨w', hw', rw'⟩ := r.get (List.getElem?_eq_getElem hi2)
    rw [hi] at hw'
    cases hw'
    obtain ⟨d, hd, cd, dd⟩ := hs _ (List.getElem_mem hi2)
    obtain ⟨bs, rd⟩ := hd.reads I rw'
    exact ⟨_, SeqAt.eqAt_reads d dx _ s w v bs as rd rdx cd cx (by
      have : X.A.in1.units = X.A.units + 1 := rfl
      have := Nat.min_le_left d.depth dx.depth
      omega)⟩
  refine SeqAt.notIn_listAt (fun w => (open Classical in if h : ∃ b, SeqAt.EqAt X.A.in1 s w v b then Classical.choose h else false)) pl.isList (fun w hw => ?_) ⟨.bl _, H, I, rfl, q _⟩
  have h := hex w (by simpa using hw)
  rw [dif_pos h]
  exact Classical.choose_spec h
end
end L2
/-! # y = [.. for a, b in ..], y a plain local -/
namespace L2
open PySem PySem.Spec PyProof.Rows
section
variable {X : Cx} {N' r xs0 : List Str} {ix : List Nat} {cs : Scope} {tg iter elt : Expr} {ifs : List Expr} {pos : Pos} {wi : TI} {g : TG} {tt : TT} {te : TE}
theorem ps_setCompM {i : Nat} {y : Str} {py spos : Pos} (hc : X.calm = true) (hN : X.N.Nodup) (hiN : X.N[i]? = some y) (hy : X.env.scope.names.lookup y = some .local) (S : CompScopeM X.N X.env.scope N' ix xs0 r cs) (hi : PI X tg iter wi)
    (hg : ∀ cl s3 H3 fp, PG (compCx X N' cs cl s3 H3 fp) tg g) (ht : ∀ cl s3 H3 fp, PTs (compCx X N' cs cl s3 H3 fp) ifs tt) (he : ∀ cl s3 H3 fp, PE (compCx X N' cs cl s3 H3 fp) elt te)
    (hsw : swapsWith (.ListComp elt [⟨tg, iter, ifs, 0⟩] cs pos) (some (.Name y py)) spos.line X.env = pure true := by rfl)
    (hs : ∀ x, foldedSetIterable iter X.env x = pure x := by intro _; rfl) : PS X (.Assign [.Name y py] (.ListComp elt [⟨tg, iter, ifs, 0⟩] cs pos) spos) (tAsg (tCompM wi ix xs0.length g tt te) (gName i)) := by
  intro pins s σ H D I h
  obtain ⟨cl, c1, c2, c3⟩ := S.clos rfl I.ok.has
  rw [exec_Assign_Name_used _ _ _ _ hsw]
  refine wpAny_bind (wpAny_standAt (wpAny_bind ?_))
  show wpAny _ X.A (do let _ ← comprehension (.ListComp elt [⟨tg, iter, ifs, 0⟩] cs pos) cs X.env _ (newList []) false (eval iter X.env) (some (assign (.Name y py) X.env))) _ _ s
  refine wpAny_bind (wpAny_mono (wpAny_comprehension_free (use := some (assign (.Name y py) X.env)) (Q := fun _ s' => SP X pins D .next s') rfl hs c1 S.kind S.hnames
    (thn (hi pins s σ H _ I h) fun v s1 h1 => thn h1 fun itv s2 h2 => ?_)) (fun _ s' hq => wpAny_pure (wpAny_pure hq)) fun _ _ e => e)
  obtain ⟨it, fp, tn, J, H2, e, I2, T, st2, f2, R⟩ := h2
  subst e
  refine comp_coreM (RR := fun acc C => compPost (model X.prog X.w) X.A X.xe (some (assign (.Name y py) X.env)) (fun _ s' => SP X pins D .next s') acc C) I2 hc S c2 c3 T st2 f2 (fun s3 H3 => hg cl s3 H3 fp) (fun s3 H3 => ht cl s3 H3 fp) (fun s3 H3 => he cl s3 H3 fp) R ?_
  intro acc C s' H' m I' fC hn q
  show wpAny _ X.A (assign (.Name y py) X.env (.ref acc)) _ _ _
  refine wpAny_assign_Name (store_ok2 (v := .ref acc) I' hN hiN (.inl hy) rfl (fun s'' I'' ⟨a, hb, ha⟩ => ?_) (.inr hy))
  have hCa : C ≠ a := fun z => by
    rcases ha with ha | ha
    · exact fC.2.1 (z.trans ha)
    · exact fC.2.2.2.2.1 y a ha z.symm
  refine ⟨m, hn.sameBut hb hCa, fun h' hb' => ⟨_, H', ?_, q⟩⟩
  exact I''.turned (t' := s''.toks) (fun b o hne e => (hb'.2 b hne).trans e) fC.1 fC.2.1 fC.2.2.2.1 fC.2.2.2.2.1 fC.2.2.2.2.2
end
end L2

set_option maxHeartbeats 2000000
namespace My
/-! ### mathematics -/
def G (d : Int) (ns : List Int) : Int := ns.foldl (fun d n => ((Int.gcd d n : Nat) : Int)) d
abbrev gl (ns : List Int) : Int := G 0 ns
theorem G_cons (d n : Int) (r : List Int) : G d (n :: r) = G (Int.gcd d n : Nat) r := rfl
theorem G_snoc (d : Int) (l : List Int) (n : Int) : G d (l ++ [n]) = (Int.gcd (G d l) n : Nat) := by
  unfold G
  rw [List.foldl_append]
  rfl
theorem G_nonneg : ∀ (ns : List Int) (d : Int), 0 ≤ d → 0 ≤ G d ns
  | [], _, h => h
  | n :: r, d, _ => by rw [G_cons]; exact G_nonneg r _ (by omega)
theorem gl_nonneg (ns : List Int) : 0 ≤ gl ns := G_nonneg ns 0 (by omega)
theorem G_dvd : ∀ (ns : List Int) (d : Int), G d ns ∣ d ∧ ∀ n ∈ ns, G d ns ∣ n
  | [], d => ⟨Int.dvd_refl d, fun n h => nomatch h⟩
  | m :: r, d => by
    obtain ⟨h1, h2⟩ := G_dvd r (Int.gcd d m : Nat)
    rw [G_cons]
    refine ⟨Int.dvd_trans h1 (Int.gcd_dvd_left ..), fun n hn => ?_⟩
    rcases List.mem_cons.mp hn with rfl | hn
    · exact Int.dvd_trans h1 (Int.gcd_dvd_right ..)
    · exact h2 n hn
theorem gl_dvd {ns : List Int} {n : Int} (h : n ∈ ns) : gl ns ∣ n := (G_dvd ns 0).2 n h
theorem dvd_G : ∀ (ns : List Int) (d k : Int), k ∣ d → (∀ n ∈ ns, k ∣ n) → k ∣ G d ns
  | [], _, _, h, _ => h
  | m :: r, d, k, h, hn => by
    rw [G_cons]
    refine dvd_G r _ k ?_ fun n h' => hn n (List.mem_cons_of_mem _ h')
    have h2 := hn m List.mem_cons_self
    exact Int.dvd_coe_gcd h h2
theorem dvd_gl {ns : List Int} {k : Int} (h : ∀ n ∈ ns, k ∣ n) : k ∣ gl ns := dvd_G ns 0 k (Int.dvd_zero k) h
theorem dvd_one {k : Int} (h0 : 0 ≤ k) (h : k ∣ 1) : k = 1 := by
  exact Int.eq_one_of_dvd_one h0 h
theorem gl_div {ns : List Int} (hg : gl ns ≠ 0) : gl (ns.map (· / gl ns)) = 1 := by
  have h0 := gl_nonneg ns
  refine dvd_one (gl_nonneg _) ?_
  have h1 : ∀ n ∈ ns, gl (ns.map (· / gl ns)) * gl ns ∣ n := fun n hn => by
    obtain ⟨c, hc⟩ := gl_dvd (ns := ns.map (· / gl ns)) (List.mem_map.mpr ⟨n, hn, rfl⟩)
    refine ⟨c, ?_⟩
    have e : n = n / gl ns * gl ns := (Int.ediv_mul_cancel (gl_dvd hn)).symm
    rw [e, hc, Int.mul_assoc, Int.mul_comm c, ← Int.mul_assoc]
  obtain ⟨c, hc⟩ := dvd_gl h1
  refine ⟨c, ?_⟩
  have h2 : gl ns * 1 = gl ns * (gl (ns.map (· / gl ns)) * c) := by
    rw [Int.mul_one, ← Int.mul_assoc, Int.mul_comm (gl ns) (gl (ns.map (· / gl ns)))]
    exact hc
  exact Int.eq_of_mul_eq_mul_left hg h2
theorem G_one : ∀ ns : List Int, G 1 ns = 1
  | [] => rfl
  | n :: r => by
    rw [G_cons]
    have : Int.gcd 1 n = 1 := by simp
    rw [this]
    exact G_one r
theorem G_append (d : Int) (a b : List Int) : G d (a ++ b) = G (G d a) b := by
  unfold G
  exact List.foldl_append
theorem gl_one_of_take {ns : List Int} {i : Nat} (h : gl (ns.take i) = 1) : gl ns = 1 := by
  have e : ns = ns.take i ++ ns.drop i := (List.take_append_drop i ns).symm
  rw [e]
  show G 0 _ = 1
  rw [G_append]
  have h' : G 0 (ns.take i) = 1 := h
  rw [h']
  exact G_one _
theorem gl_take_succ {ns : List Int} {i : Nat} {n : Int} (h : ns[i]? = some n) : gl (ns.take (i + 1)) = (Int.gcd (gl (ns.take i)) n : Nat) := by
  rw [List.take_add_one, h]
  exact G_snoc 0 _ n
theorem map_div_one (ns : List Int) : ns.map (· / 1) = ns := by
  induction ns with
  | nil => rfl
  | cons a r ih => rw [List.map_cons, ih, Int.ediv_one]
theorem gcd_step (a b : Int) (ha : 0 ≤ a) : Int.gcd b (a % b) = Int.gcd a b := by
  have h1 : (a % b).natAbs = a.natAbs % b.natAbs := Int.natAbs_emod_of_nonneg ha b
  rw [Int.gcd_eq_natAbs_gcd_natAbs, Int.gcd_eq_natAbs_gcd_natAbs, h1]
  rw [Nat.gcd_comm, Nat.gcd_comm a.natAbs, ← Nat.gcd_rec]
theorem gcd_abs (a b : Int) : Int.gcd (if a < 0 then -a else a) (if b < 0 then -b else b) = Int.gcd a b := by
  split <;> split <;> simp [Int.gcd_neg, Int.neg_gcd]
theorem gcd_maxmin (a b : Int) : Int.gcd (if b > a then b else a) (if b < a then b else a) = Int.gcd a b := by
  split <;> split
  · omega
  · exact Int.gcd_comm b a
  · rfl
  · have : a = b := by omega
    rw [this]
theorem gl_two (t b : Int) : gl [t, b] = (Int.gcd t b : Nat) := by
  show ((Int.gcd ((Int.gcd 0 t : Nat) : Int) b : Nat) : Int) = _
  rw [Int.gcd_eq_natAbs_gcd_natAbs, Int.gcd_eq_natAbs_gcd_natAbs t b, Int.gcd_eq_natAbs_gcd_natAbs 0 t]
  simp
/-- the parts of a list by its greatest divisor -/
theorem parts {ns : List Int} {a b : Int} (ha : a ∈ ns) (hb : b ∈ ns) : (a / gl ns) * b = a * (b / gl ns) := by
  have e1 : a = a / gl ns * gl ns := (Int.ediv_mul_cancel (gl_dvd ha)).symm
  have e2 : b = b / gl ns * gl ns := (Int.ediv_mul_cancel (gl_dvd hb)).symm
  conv => lhs; rhs; rw [e2]
  conv => rhs; lhs; rw [e1]
  rw [Int.mul_assoc, Int.mul_comm (gl ns)]
theorem gl_pos {ns : List Int} {n : Int} (h : n ∈ ns) (hn : n ≠ 0) : 0 < gl ns := by
  have h0 := gl_nonneg ns
  rcases Int.lt_or_eq_of_le h0 with h1 | h1
  · exact h1
  · obtain ⟨c, hc⟩ := gl_dvd h
    rw [← h1, Int.zero_mul] at hc
    exact absurd hc hn
theorem div_pos_of {ns : List Int} {n : Int} (h : n ∈ ns) (hn : 0 < n) : 1 ≤ n / gl ns := by
  have hp := gl_pos h (by omega)
  have e : n = n / gl ns * gl ns := (Int.ediv_mul_cancel (gl_dvd h)).symm
  rcases Int.lt_trichotomy (n / gl ns) 0 with h1 | h1 | h1
  · have := Int.mul_neg_of_neg_of_pos h1 hp
    omega
  · rw [h1] at e; omega
  · omega
end My
namespace My
end My
local macro_rules | `(tactic| walk_at "rd") => `(tactic| simp only [L2.start, L2.tSeq, L2.tNext, L2.tAsg, L2.gName, L2.tVar, L2.tC, L2.tOp, L2.tUn, L2.tTest, L2.tB, L2.tIfS, L2.tRet, L2.tRetN, L2.tDrop, L2.tBreak, L2.tAnd, L2.tOr, L2.tNot, L2.tAndV, L2.tOrV, L2.tNotV, L2.tCall, L2.tCB, L2.tCons, L2.tNil, L2.tTup, L2.tLst, L2.tPar, L2.tBM0, L2.tBM, L2.tyV, L2.tCut, L2.gk, and_self, L2.tSl, L2.tNoPart, L2.tPart, L2.gTup, L2.gCons, L2.gNil, L2.cxOf, and_assoc, 
  L2.rI, L2.rI0, L2.rU, L2.rEq, L2.rNe, L2.scal, List.map_cons, List.map_nil, List.length_cons, List.length_nil, List.replicate_succ, List.replicate_zero, List.cons_append, List.nil_append, List.append_nil, Nat.reduceSub, Nat.reduceAdd, Nat.sub_self,
  List.set_cons_zero, List.set_cons_succ, List.getElem?_cons_zero, List.getElem?_cons_succ, Option.some.injEq, exists_eq_left', exists_eq_left, L2.V.int.injEq, L2.V.bl.injEq, L2.V.ref.injEq, L2.V.ty.injEq, List.cons.injEq, exists_and_left, and_true, true_and, reduceCtorEq, false_and, and_false, exists_false, or_false, false_or,
  L2.slotsAt, Option.getD_some, Bool.true_eq_false, decide_eq_true_eq, Bool.not_eq_true', decide_eq_false_iff_not, decide_not, Bool.false_eq_true, if_true, if_false, ite_not])
local macro_rules | `(tactic| walk_at "go") => `(tactic| repeat (first | refine L2.ixT (by assumption) rfl ?_ | refine L2.ixL (by assumption) rfl ?_ | refine And.intro (by assumption) ?_ | walk_at "rd"))
local macro_rules | `(tactic| walk_at "rf") => `(tactic| simp only [L2.start, L2.tSeq, L2.tNext, L2.tAsg, L2.gName, L2.tVar, L2.tC, L2.tOp, L2.tUn, L2.tTest, L2.tB, L2.tIfS, L2.tRet, L2.tRetN, L2.tDrop, L2.tBreak, L2.tAnd, L2.tOr, L2.tNot, L2.tAndV, L2.tOrV, L2.tNotV, L2.tCall, L2.tCB, L2.tCons, L2.tNil, L2.tTup, L2.tLst, L2.tPar, L2.tBM0, L2.tBM, L2.tyV, L2.tCut, L2.gk, and_self, L2.tSl, L2.tNoPart, L2.tPart, L2.gTup, L2.gCons, L2.gNil, L2.cxOf, and_assoc, 
  L2.rI, L2.rI0, L2.rU, L2.rEq, L2.rNe, L2.scal, List.map_cons, List.map_nil, List.length_cons, List.length_nil, List.replicate_succ, List.replicate_zero, List.cons_append, List.nil_append, List.append_nil, Nat.reduceSub, Nat.reduceAdd, Nat.sub_self,
  List.set_cons_zero, List.set_cons_succ, List.getElem?_cons_zero, List.getElem?_cons_succ, Option.some.injEq, exists_eq_left', exists_eq_left, L2.V.int.injEq, L2.V.bl.injEq, L2.V.ref.injEq, L2.V.ty.injEq, List.cons.injEq, exists_and_left, and_true, true_and, reduceCtorEq, false_and, and_false, exists_false, or_false, false_or,
  L2.slotsAt, Option.getD_some, Bool.true_eq_false, decide_eq_true_eq, Bool.not_eq_true', decide_eq_false_iff_not, decide_not, Bool.false_eq_true, if_true, if_false, ite_not, L2.tFor_R1, L2.tFor_R2, L2.tFor_L, L2.tFor_T, L2.tComp_R1, L2.tComp_R2, L2.tComp_L, L2.tComp_T, L2.tFor_S, L2.tComp_S, L2.tChain, L2.V.str.injEq, L2.tCompM_L, L2.tListRev, L2.tComp_R3, L2.tFor_E])
local macro_rules | `(tactic| walk_at "sd") => `(tactic| first | assumption | exact L2.Fit.o (by omega) (by omega) | (show L2.CPow _ _; exact ⟨by decide, by decide, by decide⟩) | decide)
local macro_rules | `(tactic| walk_at "gf") => `(tactic| repeat (first | ((with_reducible apply L2.ixT); assumption; rfl) | ((with_reducible apply L2.ixL); assumption; rfl) | ((with_reducible apply L2.FoR.lst); assumption) | ((with_reducible apply L2.FoR.tup); assumption) | ((with_reducible apply L2.FoR.len); assumption) | ((with_reducible apply L2.FoR.lenT); assumption) | ((with_reducible apply And.intro); (walk_at "sd")) | walk_at "rf"))
namespace My
open PySem L2 PyProof.Rows
def top (i : Nat) : Stmt := PySem.Challenge.pw_boardsight_k59_areas.main.body.getD i (.Pass ⟨0, 0, 0, 0⟩)
abbrev s_greatest_divisor : Stmt := top 9
abbrev s_in_lowest_terms : Stmt := top 10
abbrev s_crossed : Stmt := top 11
abbrev s_determinant : Stmt := top 12
abbrev s_made_spot : Stmt := top 14
abbrev s_stands_first : Stmt := top 15
abbrev s_without : Stmt := top 16
abbrev s_minor_of : Stmt := top 17
abbrev s_made_plane : Stmt := top 19
abbrev s_turned_about : Stmt := top 20
abbrev s_is_plain : Stmt := top 21
abbrev s_rough_plane : Stmt := top 22
abbrev s_plane_through : Stmt := top 23
abbrev s_fraction : Stmt := top 25
abbrev s_plus : Stmt := top 26
abbrev s_total_of : Stmt := top 27
abbrev s_formed : Stmt := top 29
abbrev s_edges_of : Stmt := top 30
abbrev s_flat_axis : Stmt := top 31
abbrev s_plane_of : Stmt := top 32
abbrev s_swept_by : Stmt := top 33
abbrev s_size_of : Stmt := top 34
abbrev s_flat_spot : Stmt := top 36
abbrev s_laid_flat : Stmt := top 37
abbrev s_area_of : Stmt := top 38
abbrev s__law_cells : Stmt := top 40
abbrev s__law_pool : Stmt := top 41
abbrev s__law_take : Stmt := top 42
abbrev s__law_divisor : Stmt := top 43
abbrev s__law_lowest : Stmt := top 44
abbrev s__law_plus : Stmt := top 45
abbrev s__law_height : Stmt := top 47
abbrev s__law_through : Stmt := top 48
abbrev s__law_left : Stmt := top 49
abbrev s__law_is_round : Stmt := top 50
abbrev s__law_some_corner : Stmt := top 51
abbrev s__law_some_polygon : Stmt := top 52
abbrev s__law_handed : Stmt := top 53
abbrev s__law_area : Stmt := top 54
abbrev s__law_is_whole : Stmt := top 55
abbrev s__law_right : Stmt := top 56
abbrev s_law : Stmt := top 57
def Small (i : Int) : Prop := i.natAbs < 2 ^ 1990
theorem Small.neg {i : Int} (h : Small i) : Small (-i) := by unfold Small at *; rw [Int.natAbs_neg]; exact h
theorem Small.ite {c : Prop} [Decidable c] {i j : Int} (h : Small i) (h' : Small j) : Small (if c then i else j) := by split <;> assumption
theorem Small.bd {i : Int} (h : Small i) : Bd 1990 i := h
theorem Small.of {i : Int} (h1 : -1606938044258990275541962092341162602522202993782792835301376 < i) (h2 : i < 1606938044258990275541962092341162602522202993782792835301376) : Small i := (Bd.of h1 h2).mono
theorem small_gl {ns : List Int} (h : ∀ n ∈ ns, Small n) : Small (gl ns) := by
  by_cases c : ∃ n ∈ ns, n ≠ 0
  · obtain ⟨n, hn, h0⟩ := c
    have z := Int.natAbs_dvd_natAbs.mpr (gl_dvd hn)
    exact Nat.lt_of_le_of_lt (Nat.le_of_dvd (by omega) z) (h n hn)
  · have z : (0 : Int) ∣ gl ns := dvd_gl fun n hn => by
      have : n = 0 := Classical.byContradiction fun q => c ⟨n, hn, q⟩
      rw [this]; exact Int.dvd_refl 0
    rw [Int.zero_dvd.mp z]
    exact Nat.two_pow_pos _
theorem Same.keep {H H' : Hp} {p : Addr} {o : HO} (h : Same H H') (n : H p = none) : Same H (upd H' p o) := fun b u q => by rw [upd_ne (ne_of_none q n)]; exact h b u q
theorem int_of {ns : List Int} {i : Nat} {v : V} (h : (ns.map V.int)[i]? = some v) : ∃ z, v = V.int z ∧ ns[i]? = some z := by
  rw [List.getElem?_map] at h
  cases e : ns[i]? with
  | none => rw [e] at h; cases h
  | some z => rw [e] at h; exact ⟨z, (Option.some.inj h).symm, rfl⟩
def spGd : Sp := fun vs H Q _ => ∃ a b : Int, vs = [.int a, .int b] ∧ Small a ∧ Small b ∧ Q (.int (Int.gcd a b : Nat)) H
def spLow : Sp := fun vs H Q _ => ∃ (a : Addr) (ns : List Int), vs = [.ref a] ∧ H a = some (.tup (ns.map V.int)) ∧ ns.length ≤ 10 ∧ (∀ n ∈ ns, Small n) ∧ gl ns ≠ 0 ∧
  ∀ (r : Addr) (H' : Hp), Same H H' → H' r = some (.tup ((ns.map (· / gl ns)).map V.int)) → Q (.ref r) H'
def spWhole : Sp := fun vs H Q _ => ∃ n : Int, vs = [.int n] ∧ Q (.bl true) H
def spLaw (K : PySem.W.Frag) : Sp := fun vs H Q _ => ∃ (a : Addr) (ns : List Int), vs = [.ref a] ∧ SqL K H a (ns.map V.int) ∧ ns.length ≤ 63 ∧ ∀ H', Q (.bl true) H'
/-! ### what the top has written -/
structure Tx (K : PySem.W.Frag) (mg : Str → Option Value) (t1 t2 : Tok) : Prop where
  m_abs : mg "abs" = none
  m_max : mg "max" = none
  m_min : mg "min" = none
  m_len : mg "len" = none
  m_all : mg "all" = none
  m_range : mg "range" = none
  m_tuple : mg "tuple" = none
  m_int : mg "int" = none
  m_bool : mg "bool" = none
  m_isinstance : mg "isinstance" = none
  m_list : mg "list" = none
  m_reversed : mg "reversed" = none
  m_sum : mg "sum" = none
  m_enumerate : mg "enumerate" = none
  m_SHORT_BITS : mg "SHORT_BITS" = some (.int 2000 t1)
theorem Tx.r_SHORT_BITS {K : PySem.W.Frag} {mg : Str → Option Value} {t1 t2 : Tok} (_ : Tx K mg t1 t2) : RelV (.int 2000) (.int 2000 t1) := ⟨_, rfl⟩
def low (ns : List Int) : List Int := ns.map (· / gl ns)
def Sm2 (i : Int) : Prop := i.natAbs < 2 ^ 200
theorem Sm2.bd {i : Int} (h : Sm2 i) : Bd 1990 i := Bd.mono (n := 200) h
theorem Sm2.of {i : Int} (h1 : -1606938044258990275541962092341162602522202993782792835301376 < i) (h2 : i < 1606938044258990275541962092341162602522202993782792835301376) : Sm2 i := Bd.of h1 h2
structure Pt where
  x : Int
  y : Int
  z : Int
  w : Int
def Pt.sm (p : Pt) : Prop := Sm2 p.x ∧ Sm2 p.y ∧ Sm2 p.z ∧ Sm2 p.w
def Pt.lo (p : Pt) : Prop := Bd 60 p.x ∧ Bd 60 p.y ∧ Bd 60 p.z ∧ Bd 60 p.w ∧ 1 ≤ p.w
def Is4 (H : Hp) (r : Addr) (p : Pt) : Prop := H r = some (.tup [.int p.x, .int p.y, .int p.z, .int p.w]) ∧ p.sm
theorem Is4.keep {H H' : Hp} {r : Addr} {p : Pt} (h : Is4 H r p) (s : Same H H') : Is4 H' r p := ⟨s _ _ h.1, h.2⟩
theorem Is4.sq {K : PySem.W.Frag} {H : Hp} {r : Addr} {p : Pt} (h : Is4 H r p) : SqT K H r [.int p.x, .int p.y, .int p.z, .int p.w] := SqT.of h.1
theorem Pt.sm.fx {p : Pt} (h : p.sm) : Fit p.x := h.1.bd.fit
theorem Pt.sm.fy {p : Pt} (h : p.sm) : Fit p.y := h.2.1.bd.fit
theorem Pt.sm.fz {p : Pt} (h : p.sm) : Fit p.z := h.2.2.1.bd.fit
theorem Pt.sm.fw {p : Pt} (h : p.sm) : Fit p.w := h.2.2.2.bd.fit
def wo (k : Int) (p : Pt) : List Int := if k = 0 then [p.y, p.z, p.w] else if k = 1 then [p.x, p.z, p.w] else if k = 2 then [p.x, p.y, p.w] else [p.x, p.y, p.z]
def det3 (a b c x y z u v w : Int) : Int := (b * z - c * y) * u + (c * x - a * z) * v + (a * y - b * x) * w
def detL : List Int → List Int → List Int → Int
  | [a, b, c], [x, y, z], [u, v, w] => det3 a b c x y z u v w
  | _, _, _ => 0
def minor (k : Int) (p q r : Pt) : Int := detL (wo k p) (wo k q) (wo k r)
def inl (p q r : Pt) : Bool := decide (minor 0 p q r = 0 ∧ minor 1 p q r = 0 ∧ minor 2 p q r = 0)
def Tup3 (H : Hp) (r : Addr) (a b c : Int) : Prop := H r = some (.tup [.int a, .int b, .int c]) ∧ Sm2 a ∧ Sm2 b ∧ Sm2 c
def spCross : Sp := fun vs H Q _ => ∃ (r p : Addr) (a b c x y z : Int), vs = [.ref r, .ref p] ∧ Tup3 H r a b c ∧ Tup3 H p x y z ∧
  ∀ (t : Addr) (H' : Hp), Same H H' → H' t = some (.tup [.int (b * z - c * y), .int (c * x - a * z), .int (a * y - b * x)]) → Q (.ref t) H'
def spDet : Sp := fun vs H Q _ => ∃ (r p s : Addr) (a b c x y z u v w : Int), vs = [.ref r, .ref p, .ref s] ∧ Tup3 H r a b c ∧ Tup3 H p x y z ∧ Tup3 H s u v w ∧ ∀ H' : Hp, Same H H' → Q (.int (det3 a b c x y z u v w)) H'
def spWithout : Sp := fun vs H Q _ => ∃ (r : Addr) (k : Int) (p : Pt), vs = [.ref r, .int k] ∧ Is4 H r p ∧ 0 ≤ k ∧ k ≤ 3 ∧ ∀ (t : Addr) (H' : Hp), Same H H' → H' t = some (.tup ((wo k p).map V.int)) → Q (.ref t) H'
def spMinor : Sp := fun vs H Q _ => ∃ (r s t : Addr) (k : Int) (p q o : Pt), vs = [.ref r, .ref s, .ref t, .int k] ∧ Is4 H r p ∧ Is4 H s q ∧ Is4 H t o ∧ 0 ≤ k ∧ k ≤ 3 ∧ ∀ H' : Hp, Same H H' → Q (.int (minor k p q o)) H'
def spLine : Sp := fun vs H Q _ => ∃ (r s t : Addr) (p q o : Pt), vs = [.ref r, .ref s, .ref t] ∧ Is4 H r p ∧ Is4 H s q ∧ Is4 H t o ∧ ∀ H' : Hp, Same H H' → Q (.bl (inl p q o)) H'
def spTurned : Sp := fun vs H Q _ => ∃ (r : Addr) (ns : List Int), vs = [.ref r] ∧ H r = some (.tup (ns.map V.int)) ∧ ns.length ≤ 10 ∧ ∀ (t : Addr) (H' : Hp), Same H H' → H' t = some (.tup ((ns.map fun n => -n).map V.int)) → Q (.ref t) H'
def plb (a b c : Int) : Bool := if a ≠ 0 then decide (0 < a) else if b ≠ 0 then decide (0 < b) else if c ≠ 0 then decide (0 < c) else false
def spPlain : Sp := fun vs H Q _ => ∃ (r : Addr) (a b c d : Int), vs = [.ref r] ∧ H r = some (.tup [.int a, .int b, .int c, .int d]) ∧ ∀ H' : Hp, Same H H' → Q (.bl (plb a b c)) H'
def rgh (p o u : Pt) : List Int := [minor 0 p o u, -minor 1 p o u, minor 2 p o u, minor 3 p o u]
def spRough : Sp := fun vs H Q _ => ∃ (r e t : Addr) (p o u : Pt), vs = [.ref r, .ref e, .ref t] ∧ Is4 H r p ∧ Is4 H e o ∧ Is4 H t u ∧ ∀ (g : Addr) (H' : Hp), Same H H' → H' g = some (.tup ((rgh p o u).map V.int)) → Q (.ref g) H'
def pln (ns : List Int) : List Int := match low ns with
  | [a, b, c, d] => if plb a b c = true then [a, b, c, d] else [-a, -b, -c, -d]
  | l => l
def noArrow (p o u : Pt) : Prop := minor 0 p o u = 0 ∧ minor 1 p o u = 0 ∧ minor 2 p o u = 0
def hgt (a b c d : Int) (p : Pt) : Int := a * p.x + b * p.y + c * p.z - d * p.w
def sgn (n : Int) : Int := if n > 0 then 1 else if n < 0 then -1 else 0
def spSign : Sp := fun vs H Q _ => ∃ n : Int, vs = [.int n] ∧ Q (.int (sgn n)) H
def sf (x y z w x' y' z' w' : Int) : Bool := if x * w' ≠ x' * w then decide (x * w' < x' * w) else if y * w' ≠ y' * w then decide (y * w' < y' * w) else if z * w' ≠ z' * w then decide (z * w' < z' * w) else false
def sfp (p o : Pt) : Bool := sf p.x p.y p.z p.w o.x o.y o.z o.w
def spFirst : Sp := fun vs H Q _ => ∃ (r e : Addr) (p o : Pt), vs = [.ref r, .ref e] ∧ Is4 H r p ∧ Is4 H e o ∧ Q (.bl (sfp p o)) H
def spPlane : Sp := fun vs H Q _ => ∃ a b c d : Int, vs = [.int a, .int b, .int c, .int d] ∧ Small a ∧ Small b ∧ Small c ∧ Small d ∧ ¬ (a = 0 ∧ b = 0 ∧ c = 0) ∧ ∀ (r : Addr) (H' : Hp), Same H H' → H' r = some (.tup ((low [a, b, c, d]).map V.int)) → Q (.ref r) H'
def spThrough : Sp := fun vs H Q _ => ∃ (r e t : Addr) (p o u : Pt), vs = [.ref r, .ref e, .ref t] ∧ Is4 H r p ∧ Is4 H e o ∧ Is4 H t u ∧ ¬ noArrow p o u ∧ ∀ (g : Addr) (H' : Hp), Same H H' → H' g = some (.tup ((pln (rgh p o u)).map V.int)) → Q (.ref g) H'
def spHt : Sp := fun vs H Q _ => ∃ (r e : Addr) (a b c d : Int) (p : Pt), vs = [.ref r, .ref e] ∧ H r = some (.tup [.int a, .int b, .int c, .int d]) ∧ Small a ∧ Small b ∧ Small c ∧ Small d ∧ Is4 H e p ∧ Q (.int (hgt a b c d p)) H
def spSide : Sp := fun vs H Q _ => ∃ (r e : Addr) (a b c d : Int) (p : Pt), vs = [.ref r, .ref e] ∧ H r = some (.tup [.int a, .int b, .int c, .int d]) ∧ Small a ∧ Small b ∧ Small c ∧ Small d ∧ Is4 H e p ∧ Q (.int (sgn (hgt a b c d p))) H
/-- references to spots -/
inductive Sps (H : Hp) : List Addr → List Pt → Prop
  | nil : Sps H [] []
  | cons {r : Addr} {p : Pt} {rs : List Addr} {ps : List Pt} (h : Is4 H r p) (t : Sps H rs ps) : Sps H (r :: rs) (p :: ps)
theorem Sps.keep {H H' : Hp} {rs : List Addr} {ps : List Pt} (h : Sps H rs ps) (s : SameT H H') : Sps H' rs ps := by
  induction h with
  | nil => exact .nil
  | cons h _ ih => exact .cons ⟨s _ _ h.1, h.2⟩ ih
theorem Sps.len {H : Hp} {rs : List Addr} {ps : List Pt} (h : Sps H rs ps) : rs.length = ps.length := by
  induction h with
  | nil => rfl
  | cons h _ ih => rw [List.length_cons, List.length_cons, ih]
theorem Sps.app {H : Hp} {rs rs' : List Addr} {ps ps' : List Pt} (h : Sps H rs ps) (k : Sps H rs' ps') : Sps H (rs ++ rs') (ps ++ ps') := by
  induction h with
  | nil => exact k
  | cons h _ ih => exact .cons h ih
theorem Sps.rev {H : Hp} {rs : List Addr} {ps : List Pt} (h : Sps H rs ps) : Sps H rs.reverse ps.reverse := by
  induction h with
  | nil => exact .nil
  | cons h _ ih =>
    rw [List.reverse_cons, List.reverse_cons]
    exact ih.app (.cons h .nil)
theorem Sps.drop {H : Hp} {rs : List Addr} {ps : List Pt} (h : Sps H rs ps) : ∀ n, Sps H (rs.drop n) (ps.drop n) := by
  induction h with
  | nil => intro n; rw [List.drop_nil, List.drop_nil]; exact .nil
  | cons h k ih =>
    intro n
    cases n with
    | zero => exact .cons h k
    | succ n => exact ih n
theorem Sps.take {H : Hp} {rs : List Addr} {ps : List Pt} (h : Sps H rs ps) : ∀ n, Sps H (rs.take n) (ps.take n) := by
  induction h with
  | nil => intro n; rw [List.take_nil, List.take_nil]; exact .nil
  | cons h k ih =>
    intro n
    cases n with
    | zero => exact .nil
    | succ n => exact .cons h (ih n)
def p0 : Pt := ⟨0, 0, 0, 0⟩
def pt (ps : List Pt) (i : Nat) : Pt := ps.getD i p0
def ad (rs : List Addr) (i : Nat) : Addr := rs.getD i 0
theorem Sps.get {H : Hp} {rs : List Addr} {ps : List Pt} (h : Sps H rs ps) : ∀ {i : Nat}, i < ps.length → (rs.map V.ref)[i]? = some (.ref (ad rs i)) ∧ Is4 H (ad rs i) (pt ps i) := by
  induction h with
  | nil => intro i hi; exact absurd hi (by simp)
  | cons h k ih =>
    intro i hi
    cases i with
    | zero => exact ⟨rfl, h⟩
    | succ i => exact ih (by simpa using hi)
theorem atI_neg1 {α : Type} {xs : List α} {v : α} {n : Nat} (hn : xs.length = n + 1) (h : xs[n]? = some v) : atI xs (-1) = some v := by
  have e : xs = xs.take n ++ [v] := by
    have z := List.take_add_one (l := xs) (i := n)
    rw [h, ← hn, List.take_length] at z
    exact z
  rw [e]
  exact atI_last _ _
theorem cut_drop {xs : List V} {f : Nat} : cutV xs (some (f : Int)) none = xs.drop f := by
  unfold cutV
  rw [HT.sIx_nat, HT.sIx_none]
  by_cases h : f ≤ xs.length
  · rw [Nat.min_eq_left h, List.take_of_length_le (by rw [List.length_drop]; exact Nat.le_refl _)]
  · rw [Nat.min_eq_right (by omega), List.drop_of_length_le (Nat.le_refl _), List.drop_of_length_le (by omega), List.take_nil]
theorem cut_take {xs : List V} {f : Nat} : cutV xs none (some (f : Int)) = xs.take f := by
  unfold cutV
  rw [HT.sIx_nat, HT.sIx_none]
  by_cases h : f ≤ xs.length
  · rw [Nat.min_eq_left h]
    rfl
  · rw [Nat.min_eq_right (by omega)]
    show xs.take (xs.length - 0) = _
    rw [Nat.sub_zero, List.take_length, List.take_of_length_le (by omega)]
/-- the corner that stands first, among the first i + 1 -/
def argF (ps : List Pt) : Nat → Nat
  | 0 => 0
  | i + 1 => if sfp (pt ps (i + 1)) (pt ps (argF ps i)) = true then i + 1 else argF ps i
theorem argF_le (ps : List Pt) : ∀ i, argF ps i ≤ i
  | 0 => Nat.le_refl _
  | i + 1 => by
    have := argF_le ps i
    unfold argF
    split <;> omega
def rot {α : Type} (f : Nat) (l : List α) : List α := l.drop f ++ l.take f
def turn {α : Type} (b : Bool) (l : List α) : List α := if b = true then l.take 1 ++ (l.drop 1).reverse else l
def fF (ps : List Pt) : Nat := argF ps (ps.length - 1)
def fB (ps : List Pt) : Bool := sfp (pt (rot (fF ps) ps) (ps.length - 1)) (pt (rot (fF ps) ps) 1)
def frm {α : Type} (ps : List Pt) (l : List α) : List α := turn (fB ps) (rot (fF ps) l)
theorem Sps.rot {H : Hp} {rs : List Addr} {ps : List Pt} (h : Sps H rs ps) (f : Nat) : Sps H (rot f rs) (rot f ps) := (h.drop f).app (h.take f)
theorem Sps.turn {H : Hp} {rs : List Addr} {ps : List Pt} (h : Sps H rs ps) (b : Bool) : Sps H (turn b rs) (turn b ps) := by
  unfold My.turn
  cases b
  · exact h
  · exact (h.take 1).app (h.drop 1).rev
theorem Sps.frm {H : Hp} {rs : List Addr} {ps qs : List Pt} (h : Sps H rs qs) : Sps H (frm ps rs) (frm ps qs) := (h.rot _).turn _
def Cor (H : Hp) (l : Addr) (rs : List Addr) (ps : List Pt) : Prop := H l = some (.lst (rs.map V.ref)) ∧ Sps H rs ps
theorem Cor.keep {H H' : Hp} {l : Addr} {rs : List Addr} {ps : List Pt} (h : Cor H l rs ps) (s : Same H H') : Cor H' l rs ps := ⟨s _ _ h.1, h.2.keep s.t⟩
def spFormed : Sp := fun vs H Q _ => ∃ (l : Addr) (rs : List Addr) (ps : List Pt), vs = [.ref l] ∧ Cor H l rs ps ∧ 3 ≤ ps.length ∧ ps.length ≤ 8 ∧
  ∀ (t : Addr) (H' : Hp), Same H H' → H' t = some (.tup ((frm ps rs).map V.ref)) → Q (.ref t) H'
def spAxis : Sp := fun vs H Q _ => ∃ (r : Addr) (a b c d : Int), vs = [.ref r] ∧ H r = some (.tup [.int a, .int b, .int c, .int d]) ∧ ¬ (a = 0 ∧ b = 0 ∧ c = 0) ∧ ∀ k : Int, (k = 0 ∧ a ≠ 0) ∨ (k = 1 ∧ a = 0 ∧ b ≠ 0) ∨ (k = 2 ∧ a = 0 ∧ b = 0 ∧ c ≠ 0) → Q (.int k) H
def spEdge : Sp := fun vs H Q _ => ∃ (g r e t : Addr) (k : Int) (p o u : Pt), vs = [.ref g, .ref t, .int k] ∧ H g = some (.tup [.ref r, .ref e]) ∧ Is4 H r p ∧ Is4 H e o ∧ Is4 H t u ∧ 0 ≤ k ∧ k ≤ 3 ∧ ∀ H' : Hp, Same H H' → Q (.int (sgn (minor k p o u))) H'
/-- every corner turns one way -/
def Rnd (k : Int) (ps : List Pt) : Prop := ∀ i j, i < ps.length → 1 ≤ j → j < ps.length - 1 → sgn (minor k (pt ps ((i + (ps.length - 1)) % ps.length)) (pt ps i) (pt ps ((i + j) % ps.length))) = sgn (minor k (pt ps 0) (pt ps 1) (pt ps 2))
def spCvx : Sp := fun vs H Q _ => ∃ (l : Addr) (k : Int) (rs : List Addr) (ps : List Pt), vs = [.ref l, .int k] ∧ Cor H l rs ps ∧ 3 ≤ ps.length ∧ ps.length ≤ 8 ∧ 0 ≤ k ∧ k ≤ 2 ∧ Rnd k ps ∧ ∀ H' : Hp, Same H H' → Q (.bl true) H'
structure Brd (ps : List Pt) : Prop where
  n3 : 3 ≤ ps.length
  n8 : ps.length ≤ 8
  na : ¬ noArrow (pt ps 0) (pt ps 1) (pt ps 2)
  flat : ∀ i, i < ps.length → hgt (minor 0 (pt ps 0) (pt ps 1) (pt ps 2)) (-minor 1 (pt ps 0) (pt ps 1) (pt ps 2)) (minor 2 (pt ps 0) (pt ps 1) (pt ps 2)) (minor 3 (pt ps 0) (pt ps 1) (pt ps 2)) (pt ps i) = 0
  rnd : ∀ k : Int, 0 ≤ k → k ≤ 2 → minor k (pt ps 0) (pt ps 1) (pt ps 2) ≠ 0 → Rnd k ps
def spBoard : Sp := fun vs H Q _ => ∃ (l : Addr) (rs : List Addr) (ps : List Pt), vs = [.ref l] ∧ Cor H l rs ps ∧ Brd ps ∧ ∀ (t : Addr) (H' : Hp), Same H H' → H' t = some (.tup ((frm ps rs).map V.ref)) → Q (.ref t) H'
def spPlaneOf : Sp := fun vs H Q _ => ∃ (t : Addr) (rs : List Addr) (ps : List Pt), vs = [.ref t] ∧ H t = some (.tup (rs.map V.ref)) ∧ Sps H rs ps ∧ 3 ≤ ps.length ∧ ¬ noArrow (pt ps 0) (pt ps 1) (pt ps 2) ∧ ∀ (g : Addr) (H' : Hp), Same H H' → H' g = some (.tup ((pln (rgh (pt ps 0) (pt ps 1) (pt ps 2))).map V.int)) → Q (.ref g) H'
section
variable {P : Program} {w : World} {K : PySem.W.Frag} {mg : Str → Option Value} {base : Heap} {t1 t2 : Tok}
theorem sc_greatest_divisor : FnScope ["one", "other", "great", "small", "steps", "rest"] ["one", "other"] (defScope s_greatest_divisor) := ⟨rfl, rfl, rfl, by decide +kernel, rfl, by decide +kernel, by decide +kernel⟩
theorem sc_in_lowest_terms : FnScope ["numbers", "divisor", "number"] ["numbers"] (defScope s_in_lowest_terms) := ⟨rfl, rfl, rfl, by decide +kernel, rfl, by decide +kernel, by decide +kernel⟩
theorem sc_crossed : FnScope ["one", "other"] ["one", "other"] (defScope s_crossed) := ⟨rfl, rfl, rfl, by decide +kernel, rfl, by decide +kernel, by decide +kernel⟩
theorem sc_determinant : FnScope ["one", "other", "third", "arrow"] ["one", "other", "third"] (defScope s_determinant) := ⟨rfl, rfl, rfl, by decide +kernel, rfl, by decide +kernel, by decide +kernel⟩
theorem sc_made_spot : FnScope ["x", "y", "z", "w"] ["x", "y", "z", "w"] (defScope s_made_spot) := ⟨rfl, rfl, rfl, by decide +kernel, rfl, by decide +kernel, by decide +kernel⟩
theorem sc_stands_first : FnScope ["one", "other", "k", "mine", "yours"] ["one", "other"] (defScope s_stands_first) := ⟨rfl, rfl, rfl, by decide +kernel, rfl, by decide +kernel, by decide +kernel⟩
theorem sc_without : FnScope ["spot", "place"] ["spot", "place"] (defScope s_without) := ⟨rfl, rfl, rfl, by decide +kernel, rfl, by decide +kernel, by decide +kernel⟩
theorem sc_minor_of : FnScope ["one", "other", "third", "place"] ["one", "other", "third", "place"] (defScope s_minor_of) := ⟨rfl, rfl, rfl, by decide +kernel, rfl, by decide +kernel, by decide +kernel⟩
theorem sc_made_plane : FnScope ["a", "b", "c", "d"] ["a", "b", "c", "d"] (defScope s_made_plane) := ⟨rfl, rfl, rfl, by decide +kernel, rfl, by decide +kernel, by decide +kernel⟩
theorem sc_turned_about : FnScope ["plane"] ["plane"] (defScope s_turned_about) := ⟨rfl, rfl, rfl, by decide +kernel, rfl, by decide +kernel, by decide +kernel⟩
theorem sc_is_plain : FnScope ["plane", "number"] ["plane"] (defScope s_is_plain) := ⟨rfl, rfl, rfl, by decide +kernel, rfl, by decide +kernel, by decide +kernel⟩
theorem sc_rough_plane : FnScope ["one", "other", "third"] ["one", "other", "third"] (defScope s_rough_plane) := ⟨rfl, rfl, rfl, by decide +kernel, rfl, by decide +kernel, by decide +kernel⟩
theorem sc_plane_through : FnScope ["one", "other", "third", "rough", "plane"] ["one", "other", "third"] (defScope s_plane_through) := ⟨rfl, rfl, rfl, by decide +kernel, rfl, by decide +kernel, by decide +kernel⟩
theorem sc_fraction : FnScope ["top", "bottom"] ["top", "bottom"] (defScope s_fraction) := ⟨rfl, rfl, rfl, by decide +kernel, rfl, by decide +kernel, by decide +kernel⟩
theorem sc_plus : FnScope ["one", "other"] ["one", "other"] (defScope s_plus) := ⟨rfl, rfl, rfl, by decide +kernel, rfl, by decide +kernel, by decide +kernel⟩
theorem sc_total_of : FnScope ["some", "total", "one"] ["some"] (defScope s_total_of) := ⟨rfl, rfl, rfl, by decide +kernel, rfl, by decide +kernel, by decide +kernel⟩
theorem sc_formed : FnScope ["corners", "first", "k", "ring"] ["corners"] (defScope s_formed) := ⟨rfl, rfl, rfl, by decide +kernel, rfl, by decide +kernel, by decide +kernel⟩
theorem sc_edges_of : FnScope ["board"] ["board"] (defScope s_edges_of) := ⟨rfl, rfl, rfl, by decide +kernel, rfl, by decide +kernel, by decide +kernel⟩
theorem sc_flat_axis : FnScope ["plane", "axis"] ["plane"] (defScope s_flat_axis) := ⟨rfl, rfl, rfl, by decide +kernel, rfl, by decide +kernel, by decide +kernel⟩
theorem sc_plane_of : FnScope ["board"] ["board"] (defScope s_plane_of) := ⟨rfl, rfl, rfl, by decide +kernel, rfl, by decide +kernel, by decide +kernel⟩
theorem sc_swept_by : FnScope ["edge", "axis", "one", "other"] ["edge", "axis"] (defScope s_swept_by) := ⟨rfl, rfl, rfl, by decide +kernel, rfl, by decide +kernel, by decide +kernel⟩
theorem sc_size_of : FnScope ["board", "plane", "axis", "swept"] ["board"] (defScope s_size_of) := ⟨rfl, rfl, rfl, by decide +kernel, rfl, by decide +kernel, by decide +kernel⟩
theorem sc_flat_spot : FnScope ["place", "u", "v"] ["place"] (defScope s_flat_spot) := ⟨rfl, rfl, rfl, by decide +kernel, rfl, by decide +kernel, by decide +kernel⟩
theorem sc_laid_flat : FnScope ["polygon"] ["polygon"] (defScope s_laid_flat) := ⟨rfl, rfl, rfl, by decide +kernel, rfl, by decide +kernel, by decide +kernel⟩
theorem sc_area_of : FnScope ["polygon"] ["polygon"] (defScope s_area_of) := ⟨rfl, rfl, rfl, by decide +kernel, rfl, by decide +kernel, by decide +kernel⟩
theorem sc__law_cells : FnScope ["script", "many", "cells", "k", "cell"] ["script", "many"] (defScope s__law_cells) := ⟨rfl, rfl, rfl, by decide +kernel, rfl, by decide +kernel, by decide +kernel⟩
theorem sc__law_pool : FnScope ["cells", "k", "cell", "rest"] ["cells", "k"] (defScope s__law_pool) := ⟨rfl, rfl, rfl, by decide +kernel, rfl, by decide +kernel, by decide +kernel⟩
theorem sc__law_take : FnScope ["pool", "many", "found"] ["pool", "many"] (defScope s__law_take) := ⟨rfl, rfl, rfl, by decide +kernel, rfl, by decide +kernel, by decide +kernel⟩
theorem sc__law_divisor : FnScope ["one", "other"] ["one", "other"] (defScope s__law_divisor) := ⟨rfl, rfl, rfl, by decide +kernel, rfl, by decide +kernel, by decide +kernel⟩
theorem sc__law_lowest : FnScope ["top", "bottom", "share"] ["top", "bottom"] (defScope s__law_lowest) := ⟨rfl, rfl, rfl, by decide +kernel, rfl, by decide +kernel, by decide +kernel⟩
theorem sc__law_plus : FnScope ["one", "other"] ["one", "other"] (defScope s__law_plus) := ⟨rfl, rfl, rfl, by decide +kernel, rfl, by decide +kernel, by decide +kernel⟩
theorem sc__law_height : FnScope ["line", "corner"] ["line", "corner"] (defScope s__law_height) := ⟨rfl, rfl, rfl, by decide +kernel, rfl, by decide +kernel, by decide +kernel⟩
theorem sc__law_through : FnScope ["one", "other"] ["one", "other"] (defScope s__law_through) := ⟨rfl, rfl, rfl, by decide +kernel, rfl, by decide +kernel, by decide +kernel⟩
theorem sc__law_left : FnScope ["one", "other", "third"] ["one", "other", "third"] (defScope s__law_left) := ⟨rfl, rfl, rfl, by decide +kernel, rfl, by decide +kernel, by decide +kernel⟩
theorem sc__law_is_round : FnScope ["corners", "k", "m"] ["corners"] (defScope s__law_is_round) := ⟨rfl, rfl, rfl, by decide +kernel, rfl, by decide +kernel, by decide +kernel⟩
theorem sc__law_some_corner : FnScope ["pool", "numbers", "k", "span", "top", "most"] ["pool"] (defScope s__law_some_corner) := ⟨rfl, rfl, rfl, by decide +kernel, rfl, by decide +kernel, by decide +kernel⟩
theorem sc__law_some_polygon : FnScope ["pool", "corners", "k", "corner", "u", "v", "w", "wide", "some"] ["pool"] (defScope s__law_some_polygon) := ⟨rfl, rfl, rfl, by decide +kernel, rfl, by decide +kernel, by decide +kernel⟩
theorem sc__law_handed : FnScope ["corners", "places", "least", "k", "u", "v", "w"] ["corners"] (defScope s__law_handed) := ⟨rfl, rfl, rfl, by decide +kernel, rfl, by decide +kernel, by decide +kernel⟩
theorem sc__law_area : FnScope ["corners", "found", "k", "bottom"] ["corners"] (defScope s__law_area) := ⟨rfl, rfl, rfl, by decide +kernel, rfl, by decide +kernel, by decide +kernel⟩
theorem sc__law_is_whole : FnScope ["thing"] ["thing"] (defScope s__law_is_whole) := ⟨rfl, rfl, rfl, by decide +kernel, rfl, by decide +kernel, by decide +kernel⟩
theorem sc__law_right : FnScope ["found", "due"] ["found", "due"] (defScope s__law_right) := ⟨rfl, rfl, rfl, by decide +kernel, rfl, by decide +kernel, by decide +kernel⟩
theorem sc_law : FnScope ["script", "cells", "k", "corners", "handed", "due"] ["script"] (defScope s_law) := ⟨rfl, rfl, rfl, by decide +kernel, rfl, by decide +kernel, by decide +kernel⟩

theorem ok_gd (T : Tx K mg t1 t2) (F : At K mg "greatest_divisor" s_greatest_divisor ["one", "other"] []) : DefOk P w K mg base CX0 1 "greatest_divisor" ["one", "other"] [] spGd := by
  refine F.ok sc_greatest_divisor (fun vs H Q E h => ?_) (fun f cdv A outer s H vs Q E hr h => ?_)
  · obtain ⟨a, b, rfl, _⟩ := h
    rfl
  obtain ⟨a, b, rfl, ha, hb, q⟩ := h
  have S := sc_greatest_divisor
  refine ⟨_, (pss_cons (ps_set (i := 2) S.nd rfl (Or.inl rfl) (pe_callB (call_max2 rfl) rfl T.m_max boot_max (pa_cons (pe_callB call_abs rfl T.m_abs boot_abs (pa_cons (pv 0) pa_nil se_nam)) (pa_cons (pe_callB call_abs rfl T.m_abs boot_abs (pa_cons (pv 1) pa_nil se_nam)) pa_nil se_cal) se_cal)))
    (pss_cons (ps_set (i := 3) S.nd rfl (Or.inl rfl) (pe_callB (call_min2 rfl) rfl T.m_min boot_min (pa_cons (pe_callB call_abs rfl T.m_abs boot_abs (pa_cons (pv 0) pa_nil se_nam)) (pa_cons (pe_callB call_abs rfl T.m_abs boot_abs (pa_cons (pv 1) pa_nil se_nam)) pa_nil se_cal) se_cal)))
    (pss_cons (ps_while PassesOwn.never (pt_cmpR op_gt (pe_bm0 PySem.F.plainAttrs_int PySem.F.slot_int_bit_length PySem.F.type_int_bit_length mt_bits (pv 3)) (pe_glob rfl T.m_SHORT_BITS T.r_SHORT_BITS) (nomark _)) pss_never)
    (pss_cons (ps_while PassesOwn.never (pt_cmpR op_ne (pv 3) pe_int (nomark _))
    (pss_cons (ps_set (i := 5) S.nd rfl (Or.inl rfl) (pe_op op_mod (pv 2) (pv 3)))
    (pss_cons (ps_set (i := 2) S.nd rfl (Or.inl rfl) (pv 3))
    (pss_one (ps_set (i := 3) S.nd rfl (Or.inl rfl) (pv 5))))))
    (pss_one (ps_ret (pv 2))))))), ?_⟩
  walk_at "rd"
  have hg : Int.gcd (if (if b < 0 then -b else b) > (if a < 0 then -a else a) then (if b < 0 then -b else b) else (if a < 0 then -a else a)) (if (if b < 0 then -b else b) < (if a < 0 then -a else a) then (if b < 0 then -b else b) else (if a < 0 then -a else a)) = Int.gcd a b := (gcd_maxmin _ _).trans (gcd_abs a b)
  have hM : 0 ≤ (if (if b < 0 then -b else b) > (if a < 0 then -a else a) then (if b < 0 then -b else b) else (if a < 0 then -a else a)) := by split <;> split <;> omega
  have hm : 0 ≤ (if (if b < 0 then -b else b) < (if a < 0 then -a else a) then (if b < 0 then -b else b) else (if a < 0 then -a else a)) := by split <;> split <;> omega
  have hs : Small (if (if b < 0 then -b else b) < (if a < 0 then -a else a) then (if b < 0 then -b else b) else (if a < 0 then -a else a)) := by
    exact Small.ite (Small.ite hb.neg hb) (Small.ite ha.neg ha)
  generalize (if (if b < 0 then -b else b) > (if a < 0 then -a else a) then (if b < 0 then -b else b) else (if a < 0 then -a else a)) = M at hg hM ⊢
  generalize (if (if b < 0 then -b else b) < (if a < 0 then -a else a) then (if b < 0 then -b else b) else (if a < 0 then -a else a)) = m at hg hm hs ⊢
  have hz : Builtin.Int.intBits m ≤ 1990 := L2.intBits_le hs
  refine ⟨fun _ σ H1 => σ = [some (.int a), some (.int b), some (.int M), some (.int m), none, none] ∧ H1 = H, ⟨0, rfl, rfl⟩, ?_⟩
  rintro _ σ H1 ⟨rfl, rfl⟩
  walk_at "rd"
  rw [if_neg (by omega)]
  refine ⟨fun n σ H2 => H2 = H1 ∧ ∃ (x y : Int) (o : Option V), σ = [some (.int a), some (.int b), some (.int x), some (.int y), none, o] ∧ 0 ≤ x ∧ 0 ≤ y ∧ Int.gcd x y = Int.gcd a b ∧ n = y.toNat, ⟨_, rfl, M, m, none, rfl, hM, hm, hg, rfl⟩, ?_⟩
  rintro n σ H2 ⟨rfl, x, y, o, rfl, hx, hy, hgg, rfl⟩
  walk_at "rd"
  by_cases c : y = 0
  · subst c
    rw [if_pos rfl]
    rw [← hgg, Int.gcd_zero_right] at q
    have e2 : ((x.natAbs : Nat) : Int) = x := by omega
    rw [e2] at q
    exact q
  · rw [if_neg c]
    have b1 := Int.emod_nonneg x c
    have b2 := Int.emod_lt_of_pos x (show 0 < y by omega)
    exact ⟨fun σ' H' => σ' = [some (V.int a), some (V.int b), some (V.int y), some (V.int (x % y)), none, some (V.int (x % y))] ∧ H' = H2, fun σ' H' ⟨h1, h2⟩ => ⟨_, by omega, h2, y, x % y, _, h1, by omega, b1, (gcd_step x y hx).trans hgg, rfl⟩, by omega, rfl, rfl⟩
theorem ok_low (T : Tx K mg t1 t2) (F : At K mg "in_lowest_terms" s_in_lowest_terms ["numbers"] []) (d_greatest_divisor : DefOk P w K mg base CX0 1 "greatest_divisor" ["one", "other"] [] spGd) : DefOk P w K mg base CX0 2 "in_lowest_terms" ["numbers"] [] spLow := by
  refine F.ok sc_in_lowest_terms (fun vs H Q E h => ?_) (fun f cdv A outer s H vs Q E hr h => ?_)
  · obtain ⟨a, ns, rfl, _⟩ := h
    rfl
  obtain ⟨a, ns, rfl, ha, hl, hs, hg, q⟩ := h
  have S := sc_in_lowest_terms
  refine ⟨_, (pss_cons (ps_set (i := 1) S.nd rfl (Or.inr rfl) pe_int)
    (pss_cons (ps_for PassesOwn.never rfl (pi_tup (pv 0)) (pg_name (i := 2) S.nd rfl (Or.inl rfl))
    (pss_cons (ps_set (i := 1) S.nd rfl (Or.inr rfl) (pe_callD d_greatest_divisor (hr.mono (by decide)) rfl pass0 (pa_cons (pv 1) (pa_cons (pv 2) pa_nil se_nam) se_nam)))
    (pss_one (ps_if (pt_cmpR op_eq (pv 1) pe_int (nomark _))
    (pss_one (ps_ret (pe_callTy call_tuple_of rfl T.m_tuple boot_tuple (pa_cons (pv 0) pa_nil se_nam))))
    pss_nil))))
    (pss_one (ps_ret (pe_callTy call_tuple_of rfl T.m_tuple boot_tuple (pa_cons (pe_comp rfl (N' := ["number", "divisor"]) (ix := [1]) ⟨rfl, rfl, by decide +kernel, by decide +kernel, rfl, by decide +kernel, (show ∀ y : Str × NameKind, y ∈ _ → y.2 = NameKind.free → (defScope s_in_lowest_terms).names.lookup y.1 = some .cell ∨ (defScope s_in_lowest_terms).names.lookup y.1 = some .free from by decide +kernel), (.cons rfl (.inl rfl) rfl .nil)⟩ (pi_tup (pv 0)) (fun _ _ _ _ => pg_name (i := 0) (show (["number", "divisor"] : List Str).Nodup from by decide +kernel) rfl (Or.inl rfl)) (fun _ _ _ _ => pts_nil) (fun _ _ _ _ => (pe_op op_fdivB (pv 0) (pv 1)))) pa_nil se_cmp)))))), ?_⟩
  walk_at "rd"
  refine ⟨_, rfl, a, rfl, ⟨_, SqT.of ha⟩, for_tup (K := K) (a := a) (xs := ns.map V.int) (fun i σ H2 => H2 = H ∧ ∃ o : Option V, σ = [some (.ref a), some (.int (gl (ns.take i))), o]) ⟨rfl, none, rfl⟩ (fun i σ H2 _ ⟨h, _⟩ => by rw [h]; exact SqT.of ha) ?_ ?_⟩
  · rintro i v σ H2 hi ⟨rfl, o, rfl⟩
    obtain ⟨z, rfl, hz⟩ := int_of hi
    walk_at "rd"
    refine ⟨_, _, rfl, small_gl fun n hn => hs n (List.mem_of_mem_take hn), hs z (List.mem_of_getElem? hz), ?_⟩
    walk_at "rd"
    rw [← gl_take_succ hz]
    refine ite2 (fun c => ⟨_, .inr ⟨SqT.of ha, ?_⟩⟩) fun c => ⟨rfl, _, rfl⟩
    have g1 : gl ns = 1 := gl_one_of_take c
    refine q a H2 (Same.refl _) ?_
    rw [g1, map_div_one]
    exact ha
  · rintro σ H2 ⟨rfl, o, rfl⟩
    walk_at "rd"
    have el : (ns.map V.int).length = ns.length := List.length_map _
    rw [el, List.take_length]
    have gp : 0 < gl ns := by have := gl_nonneg ns; omega
    refine ⟨_, rfl, a, rfl, ⟨_, SqT.of ha⟩, fun acc hacc => comp_tup (K := K) (a := a) (zs := ns.map V.int) (fun i xs H3 => Same H2 H3 ∧ H3 acc = some (.lst xs) ∧ xs = ((ns.take i).map (· / gl ns)).map V.int) ⟨Same.new hacc _, upd_same, rfl⟩ (fun i xs H3 _ h => h.1.tup (SqT.of ha)) ?_ ?_⟩
    · rintro i v xs H3 hi ⟨h1, h2, rfl⟩
      obtain ⟨z, rfl, hz⟩ := int_of hi
      walk_at "rd"
      have li := (List.getElem?_eq_some_iff.mp hz).1
      refine ⟨gp, (small_gl hs).bd.fit, h2, ?_, Same.keep h1 hacc, upd_same, ?_⟩
      · rw [List.length_map, List.length_map, List.length_take]
        exact small1000 (by omega)
      · rw [List.take_add_one, hz, List.map_append, List.map_append]
        rfl
    · rintro xs H3 ⟨h1, h2, rfl⟩
      rw [el, List.take_length] at h2
      exact ⟨acc, rfl, _, .inl ⟨SqL.of h2, fun l hl => q l _ (h1.trans (Same.new hl _)) upd_same⟩⟩
theorem ok_crossed (T : Tx K mg t1 t2) (F : At K mg "crossed" s_crossed ["one", "other"] []) : DefOk P w K mg base CX0 1 "crossed" ["one", "other"] [] spCross := by
  refine F.ok sc_crossed (fun vs H Q E h => ?_) (fun f cdv A outer s H vs Q E hr h => ?_)
  · obtain ⟨r, p, a, b, c, x, y, z, rfl, _⟩ := h
    rfl
  obtain ⟨r, p, a, b, c, x, y, z, rfl, ⟨h1, sa, sb, sc⟩, ⟨h2, sx, sy, sz⟩, q⟩ := h
  have S := sc_crossed
  refine ⟨_, (pss_one (ps_ret (pe_tup (pa_cons (pe_op op_sub (pe_op op_mulB (pe_ix ix_tup (pv 0) pe_int (fun _ _ => rfl)) (pe_ix ix_tup (pv 1) pe_int (fun _ _ => rfl))) (pe_op op_mulB (pe_ix ix_tup (pv 0) pe_int (fun _ _ => rfl)) (pe_ix ix_tup (pv 1) pe_int (fun _ _ => rfl)))) (pa_cons (pe_op op_sub (pe_op op_mulB (pe_ix ix_tup (pv 0) pe_int (fun _ _ => rfl)) (pe_ix ix_tup (pv 1) pe_int (fun _ _ => rfl))) (pe_op op_mulB (pe_ix ix_tup (pv 0) pe_int (fun _ _ => rfl)) (pe_ix ix_tup (pv 1) pe_int (fun _ _ => rfl)))) (pa_cons (pe_op op_sub (pe_op op_mulB (pe_ix ix_tup (pv 0) pe_int (fun _ _ => rfl)) (pe_ix ix_tup (pv 1) pe_int (fun _ _ => rfl))) (pe_op op_mulB (pe_ix ix_tup (pv 0) pe_int (fun _ _ => rfl)) (pe_ix ix_tup (pv 1) pe_int (fun _ _ => rfl)))) pa_nil se_bin) se_bin) se_bin)))), ?_⟩
  have k1 : SqT K H r [.int a, .int b, .int c] := SqT.of h1
  have k2 : SqT K H p [.int x, .int y, .int z] := SqT.of h2
  have fa := sa.bd.fit
  have fb := sb.bd.fit
  have fc := sc.bd.fit
  have fx := sx.bd.fit
  have fy := sy.bd.fit
  have fz := sz.bd.fit
  walk_at "rf"
  walk_at "gf"
  intro t ht
  exact q t _ (Same.new ht _) upd_same
theorem ok_det (T : Tx K mg t1 t2) (F : At K mg "determinant" s_determinant ["one", "other", "third"] []) (d_crossed : DefOk P w K mg base CX0 1 "crossed" ["one", "other"] [] spCross) : DefOk P w K mg base CX0 2 "determinant" ["one", "other", "third"] [] spDet := by
  refine F.ok sc_determinant (fun vs H Q E h => ?_) (fun f cdv A outer s H vs Q E hr h => ?_)
  · obtain ⟨r, p, e, a, b, c, x, y, z, u, v, o, rfl, _⟩ := h
    rfl
  obtain ⟨r, p, e, a, b, c, x, y, z, u, v, o, rfl, h1, h2, h3, q⟩ := h
  have S := sc_determinant
  refine ⟨_, (pss_cons (ps_set (i := 3) S.nd rfl (Or.inl rfl) (pe_callD d_crossed (hr.mono (by decide)) rfl pass0 (pa_cons (pv 0) (pa_cons (pv 1) pa_nil se_nam) se_nam)))
    (pss_one (ps_ret (pe_op op_add (pe_op op_add (pe_op op_mulB (pe_ix ix_tup (pv 3) pe_int (fun _ _ => rfl)) (pe_ix ix_tup (pv 2) pe_int (fun _ _ => rfl))) (pe_op op_mulB (pe_ix ix_tup (pv 3) pe_int (fun _ _ => rfl)) (pe_ix ix_tup (pv 2) pe_int (fun _ _ => rfl)))) (pe_op op_mulB (pe_ix ix_tup (pv 3) pe_int (fun _ _ => rfl)) (pe_ix ix_tup (pv 2) pe_int (fun _ _ => rfl))))))), ?_⟩
  walk_at "rf"
  refine ⟨r, p, a, b, c, x, y, z, rfl, h1, h2, fun t H1 s1 e1 => ?_⟩
  have k1 : SqT K H1 t _ := SqT.of e1
  have k2 : SqT K H1 e [.int u, .int v, .int o] := SqT.of (s1 _ _ h3.1)
  have fu := h3.2.1.bd.fit
  have fv := h3.2.2.1.bd.fit
  have fo := h3.2.2.2.bd.fit
  have ma : ∀ {i j k l : Int}, Sm2 i → Sm2 j → Sm2 k → Sm2 l → Fit (i * j - k * l) := fun h1 h2 h3 h4 => Bd.fit (n := 401) (Bd.sub (Bd.mul (n := 200) (m := 200) h1 h2) (Bd.mul (n := 200) (m := 200) h3 h4))
  have g1 := ma h1.2.2.1 h2.2.2.2 h1.2.2.2 h2.2.2.1
  have g2 := ma h1.2.2.2 h2.2.1 h1.2.1 h2.2.2.2
  have g3 := ma h1.2.1 h2.2.2.1 h1.2.2.1 h2.2.1
  walk_at "gf"
  exact q _ s1
theorem ok_without (T : Tx K mg t1 t2) (F : At K mg "without" s_without ["spot", "place"] []) : DefOk P w K mg base CX0 1 "without" ["spot", "place"] [] spWithout := by
  refine F.ok sc_without (fun vs H Q E h => ?_) (fun f cdv A outer s H vs Q E hr h => ?_)
  · obtain ⟨r, k, p, rfl, _⟩ := h
    rfl
  obtain ⟨r, k, p, rfl, h1, k0, k3, q⟩ := h
  have S := sc_without
  refine ⟨_, (pss_one (ps_ret (pe_callTy call_tuple_of rfl T.m_tuple boot_tuple (pa_cons (pe_comp rfl (N' := ["k", "spot", "place"]) (ix := [0, 1]) ⟨rfl, rfl, by decide +kernel, by decide +kernel, rfl, by decide +kernel, (show ∀ y : Str × NameKind, y ∈ _ → y.2 = NameKind.free → (defScope s_without).names.lookup y.1 = some .cell ∨ (defScope s_without).names.lookup y.1 = some .free from by decide +kernel), (.cons rfl (.inl rfl) rfl (.cons rfl (.inl rfl) rfl .nil))⟩ (pi_range1 rfl T.m_range (pa_cons pe_int pa_nil se_con)) (fun _ _ _ _ => pg_name (i := 0) (show (["k", "spot", "place"] : List Str).Nodup from by decide +kernel) rfl (Or.inl rfl)) (fun _ _ _ _ => (pts_one (pt_cmpR op_ne (pv 0) (pv 2) (nomark _)))) (fun _ _ _ _ => (pe_ix (ix_tupK (K := K) rfl) (pv 1) (pv 0) (fun _ _ => rfl)))) pa_nil se_cmp)))), ?_⟩
  have k_h1 := h1.sq (K := K)
  have e : k = 0 ∨ k = 1 ∨ k = 2 ∨ k = 3 := by omega
  walk_at "rf"
  walk_at "gf"
  intro acc hacc
  refine compRif (n := 4) (fun i => .int (match i with | 0 => p.x | 1 => p.y | 2 => p.z | _ => p.w)) (fun i => !decide ((i : Int) = k)) (by decide) hacc ?_ ?_ ?_
  · intro i H3 R hi s3 hR
    walk_at "rf"
    have z := hR H3 (Same.refl _)
    rw [Int.zero_add]
    exact z
  · intro i H3 R hi ci s3 hR
    have k1 := s3.tup k_h1
    match i, hi with
    | 0, _ =>
      walk_at "rf"
      walk_at "gf"
      exact hR _ (Same.refl _)
    | 1, _ =>
      walk_at "rf"
      walk_at "gf"
      exact hR _ (Same.refl _)
    | 2, _ =>
      walk_at "rf"
      walk_at "gf"
      exact hR _ (Same.refl _)
    | 3, _ =>
      walk_at "rf"
      walk_at "gf"
      exact hR _ (Same.refl _)
  intro H1 s1 e1
  refine FoR.tupOf (X := True) (SqL.of e1) fun t H2 s2 e2 => q t H2 (s1.trans s2) ?_
  rw [e2]
  rcases e with rfl | rfl | rfl | rfl <;> rfl
theorem wo_tup {H : Hp} {r : Addr} {k : Int} {p : Pt} (hp : p.sm) (h : H r = some (.tup ((wo k p).map V.int))) : ∃ a b c, wo k p = [a, b, c] ∧ Tup3 H r a b c := by
  by_cases k0 : k = 0
  · have e : wo k p = [p.y, p.z, p.w] := if_pos k0
    rw [e] at h
    exact ⟨_, _, _, e, h, hp.2.1, hp.2.2.1, hp.2.2.2⟩
  by_cases k1 : k = 1
  · have e : wo k p = [p.x, p.z, p.w] := by unfold wo; rw [if_neg k0, if_pos k1]
    rw [e] at h
    exact ⟨_, _, _, e, h, hp.1, hp.2.2.1, hp.2.2.2⟩
  by_cases k2 : k = 2
  · have e : wo k p = [p.x, p.y, p.w] := by unfold wo; rw [if_neg k0, if_neg k1, if_pos k2]
    rw [e] at h
    exact ⟨_, _, _, e, h, hp.1, hp.2.1, hp.2.2.2⟩
  have e : wo k p = [p.x, p.y, p.z] := by unfold wo; rw [if_neg k0, if_neg k1, if_neg k2]
  rw [e] at h
  exact ⟨_, _, _, e, h, hp.1, hp.2.1, hp.2.2.1⟩
theorem Tup3.keep {H H' : Hp} {r : Addr} {a b c : Int} (h : Tup3 H r a b c) (s : Same H H') : Tup3 H' r a b c := ⟨s _ _ h.1, h.2⟩
theorem ok_minor (T : Tx K mg t1 t2) (F : At K mg "minor_of" s_minor_of ["one", "other", "third", "place"] []) (d_without : DefOk P w K mg base CX0 1 "without" ["spot", "place"] [] spWithout) (d_determinant : DefOk P w K mg base CX0 2 "determinant" ["one", "other", "third"] [] spDet) : DefOk P w K mg base CX0 3 "minor_of" ["one", "other", "third", "place"] [] spMinor := by
  refine F.ok sc_minor_of (fun vs H Q E h => ?_) (fun f cdv A outer s H vs Q E hr h => ?_)
  · obtain ⟨r, e, t, k, p, o, u, rfl, _⟩ := h
    rfl
  obtain ⟨r, e, t, k, p, o, u, rfl, h1, h2, h3, k0, k3, q⟩ := h
  have S := sc_minor_of
  refine ⟨_, (pss_one (ps_ret (pe_callD d_determinant (hr.mono (by decide)) rfl pass0 (pa_cons (pe_callD d_without (hr.mono (by decide)) rfl pass0 (pa_cons (pv 0) (pa_cons (pv 3) pa_nil se_nam) se_nam)) (pa_cons (pe_callD d_without (hr.mono (by decide)) rfl pass0 (pa_cons (pv 1) (pa_cons (pv 3) pa_nil se_nam) se_nam)) (pa_cons (pe_callD d_without (hr.mono (by decide)) rfl pass0 (pa_cons (pv 2) (pa_cons (pv 3) pa_nil se_nam) se_nam)) pa_nil se_cal) se_cal) se_cal)))), ?_⟩
  walk_at "rf"
  refine ⟨r, k, p, rfl, h1, k0, k3, fun t1 H1 s1 e1 => ?_⟩
  refine ⟨e, k, o, rfl, h2.keep s1, k0, k3, fun t2 H2 s2 e2 => ?_⟩
  refine ⟨t, k, u, rfl, h3.keep (s1.trans s2), k0, k3, fun t3 H3 s3 e3 => ?_⟩
  obtain ⟨a, b, c, w1, z1⟩ := wo_tup h1.2 e1
  obtain ⟨a2, b2, c2, w2, z2⟩ := wo_tup h2.2 e2
  obtain ⟨a3, b3, c3, w3, z3⟩ := wo_tup h3.2 e3
  have em : minor k p o u = det3 a b c a2 b2 c2 a3 b3 c3 := by
    unfold minor
    rw [w1, w2, w3]
    rfl
  refine ⟨t1, t2, t3, a, b, c, a2, b2, c2, a3, b3, c3, rfl, z1.keep (s2.trans s3), z2.keep s3, z3, fun H4 s4 => ?_⟩
  rw [← em]
  exact q H4 (s1.trans (s2.trans (s3.trans s4)))
theorem mem4 {a b c d : Int} (ha : Small a) (hb : Small b) (hc : Small c) (hd : Small d) : ∀ n ∈ [a, b, c, d], Small n := fun n hn => by
  simp only [List.mem_cons, List.not_mem_nil, or_false] at hn
  rcases hn with rfl | rfl | rfl | rfl <;> assumption
theorem gl4 {a b c d : Int} (h : ¬ (a = 0 ∧ b = 0 ∧ c = 0)) : 0 < gl [a, b, c, d] := by
  by_cases c1 : a = 0
  · by_cases c2 : b = 0
    · exact gl_pos (n := c) (by simp) fun z => h ⟨c1, c2, z⟩
    · exact gl_pos (n := b) (by simp) c2
  · exact gl_pos (n := a) (by simp) c1
def vneg (v : V) : V := match v with | .int i => .int (-i) | _ => v
theorem map_vneg (ns : List Int) : (ns.map V.int).map vneg = (ns.map fun n => -n).map V.int := by
  rw [List.map_map, List.map_map]
  rfl
theorem ok_turned (T : Tx K mg t1 t2) (F : At K mg "turned_about" s_turned_about ["plane"] []) : DefOk P w K mg base CX0 1 "turned_about" ["plane"] [] spTurned := by
  refine F.ok sc_turned_about (fun vs H Q E h => ?_) (fun f cdv A outer s H vs Q E hr h => ?_)
  · obtain ⟨r, ns, rfl, _⟩ := h
    rfl
  obtain ⟨r, ns, rfl, h1, hl, q⟩ := h
  have S := sc_turned_about
  refine ⟨_, (pss_one (ps_ret (pe_callTy call_tuple_of rfl T.m_tuple boot_tuple (pa_cons (pe_comp rfl (N' := ["number"]) (ix := []) ⟨rfl, rfl, by decide +kernel, by decide +kernel, rfl, by decide +kernel, (show ∀ y : Str × NameKind, y ∈ _ → y.2 = NameKind.free → (defScope s_turned_about).names.lookup y.1 = some .cell ∨ (defScope s_turned_about).names.lookup y.1 = some .free from by decide +kernel), .nil⟩ (pi_tup (pv 0)) (fun _ _ _ _ => pg_name (i := 0) (show (["number"] : List Str).Nodup from by decide +kernel) rfl (Or.inl rfl)) (fun _ _ _ _ => pts_nil) (fun _ _ _ _ => (pe_un un_neg (pv 0)))) pa_nil se_cmp)))), ?_⟩
  have k1 : SqT K H r (ns.map V.int) := SqT.of h1
  walk_at "rf"
  walk_at "gf"
  intro acc hacc
  refine compT vneg (by rw [List.length_map]; omega) hacc k1 ?_ ?_
  · intro z H3 R hz s3 hR
    obtain ⟨m, hm, rfl⟩ := List.mem_map.mp hz
    walk_at "rd"
    exact hR _ (Same.refl _)
  intro H1 s1 e1
  rw [map_vneg] at e1
  exact FoR.tupOf (X := True) (SqL.of e1) fun t H2 s2 e2 => q t H2 (s1.trans s2) e2
theorem ok_plain (T : Tx K mg t1 t2) (F : At K mg "is_plain" s_is_plain ["plane"] []) : DefOk P w K mg base CX0 1 "is_plain" ["plane"] [] spPlain := by
  refine F.ok sc_is_plain (fun vs H Q E h => ?_) (fun f cdv A outer s H vs Q E hr h => ?_)
  · obtain ⟨r, a, b, c, d, rfl, _⟩ := h
    rfl
  obtain ⟨r, a, b, c, d, rfl, h1, q⟩ := h
  have S := sc_is_plain
  refine ⟨_, (pss_cons (ps_for PassesOwn.never rfl (pi_tup (pe_slice sl_tup (pv 0) po_none (po_some pe_int))) (pg_name (i := 1) S.nd rfl (Or.inl rfl))
    (pss_one (ps_if (pt_cmpR op_ne (pv 1) pe_int (nomark _))
    (pss_one (ps_ret (pe_cmpR op_gt (pv 1) pe_int (nomark _))))
    pss_nil)))
    (pss_one (ps_ret pe_bl))), ?_⟩
  walk_at "rf"
  refine ⟨r, _, rfl, SqT.of h1, (show ¬ (HT.sIx 4 0 none = 0 ∧ HT.sIx 4 4 (some 3) = 4) by decide), fun p hp => ?_⟩
  have sp := Same.new hp (.tup (cutV [.int a, .int b, .int c, .int d] none (some 3)))
  have ep : upd H p (.tup (cutV [.int a, .int b, .int c, .int d] none (some 3))) p = some (.tup ([a, b, c].map V.int)) := upd_same
  generalize upd H p (.tup (cutV [.int a, .int b, .int c, .int d] none (some 3))) = H1 at sp ep ⊢
  have kp : SqT K H1 p ([a, b, c].map V.int) := SqT.of ep
  walk_at "gf"
  have q := q H1 sp
  unfold plb at q
  refine for_tup (K := K) (a := p) (xs := [a, b, c].map V.int) (fun i σ H2 => H2 = H1 ∧ ∃ o1 : Option V, σ = [some (.ref r), o1] ∧ (1 ≤ i → a = 0) ∧ (2 ≤ i → b = 0) ∧ (3 ≤ i → c = 0)) ⟨rfl, none, rfl, by simp, by simp, by simp⟩ (fun i σ H2 _ ⟨h, _⟩ => by rw [h]; exact kp) ?_ ?_
  · rintro i v σ H2 hi ⟨rfl, o1, rfl, e0, e1, e2⟩
    match i, hi with
    | 0, hi =>
      cases hi
      walk_at "rf"
      refine ite2 (fun cc => ⟨fun _ => cc, fun h => absurd h (by decide), fun h => absurd h (by decide)⟩) fun cc => ?_
      rw [if_pos cc] at q
      exact q
    | 1, hi =>
      cases hi
      have d0 := e0 (by decide)
      walk_at "rf"
      refine ite2 (fun cc => ⟨fun _ => d0, fun _ => cc, fun h => absurd h (by decide)⟩) fun cc => ?_
      rw [if_neg (fun n => n d0), if_pos cc] at q
      exact q
    | 2, hi =>
      cases hi
      have d0 := e0 (by decide)
      have d1 := e1 (by decide)
      walk_at "rf"
      refine ite2 (fun cc => ⟨fun _ => d0, fun _ => d1, fun _ => cc⟩) fun cc => ?_
      rw [if_neg (fun n => n d0), if_neg (fun n => n d1), if_pos cc] at q
      exact q
  · rintro σ H2 ⟨rfl, o1, rfl, e0, e1, e2⟩
    rw [if_neg (fun n => n (e0 (show 1 ≤ 3 by decide))), if_neg (fun n => n (e1 (show 2 ≤ 3 by decide))), if_neg (fun n => n (e2 (show 3 ≤ 3 by decide)))] at q
    exact q
theorem ok_rough (T : Tx K mg t1 t2) (F : At K mg "rough_plane" s_rough_plane ["one", "other", "third"] []) (d_minor_of : DefOk P w K mg base CX0 3 "minor_of" ["one", "other", "third", "place"] [] spMinor) : DefOk P w K mg base CX0 4 "rough_plane" ["one", "other", "third"] [] spRough := by
  refine F.ok sc_rough_plane (fun vs H Q E h => ?_) (fun f cdv A outer s H vs Q E hr h => ?_)
  · obtain ⟨r, e, t, p, o, u, rfl, _⟩ := h
    rfl
  obtain ⟨r, e, t, p, o, u, rfl, h1, h2, h3, q⟩ := h
  have S := sc_rough_plane
  refine ⟨_, (pss_one (ps_ret (pe_tup (pa_cons (pe_callD d_minor_of (hr.mono (by decide)) rfl pass0 (pa_cons (pv 0) (pa_cons (pv 1) (pa_cons (pv 2) (pa_cons pe_int pa_nil se_con) se_nam) se_nam) se_nam)) (pa_cons (pe_un un_neg (pe_callD d_minor_of (hr.mono (by decide)) rfl pass0 (pa_cons (pv 0) (pa_cons (pv 1) (pa_cons (pv 2) (pa_cons pe_int pa_nil se_con) se_nam) se_nam) se_nam))) (pa_cons (pe_callD d_minor_of (hr.mono (by decide)) rfl pass0 (pa_cons (pv 0) (pa_cons (pv 1) (pa_cons (pv 2) (pa_cons pe_int pa_nil se_con) se_nam) se_nam) se_nam)) (pa_cons (pe_callD d_minor_of (hr.mono (by decide)) rfl pass0 (pa_cons (pv 0) (pa_cons (pv 1) (pa_cons (pv 2) (pa_cons pe_int pa_nil se_con) se_nam) se_nam) se_nam)) pa_nil se_cal) se_cal) se_un) se_cal)))), ?_⟩
  walk_at "rf"
  refine ⟨r, e, t, 0, p, o, u, rfl, h1, h2, h3, by decide, by decide, fun H1 s1 => ?_⟩
  refine ⟨r, e, t, 1, p, o, u, rfl, h1.keep s1, h2.keep s1, h3.keep s1, by decide, by decide, fun H2 s2 => ?_⟩
  have s12 := s1.trans s2
  walk_at "rf"
  refine ⟨r, e, t, 2, p, o, u, rfl, h1.keep s12, h2.keep s12, h3.keep s12, by decide, by decide, fun H3 s3 => ?_⟩
  have s13 := s12.trans s3
  refine ⟨r, e, t, 3, p, o, u, rfl, h1.keep s13, h2.keep s13, h3.keep s13, by decide, by decide, fun H4 s4 => ?_⟩
  exact ⟨by decide, fun g hg => q g _ (s13.trans (s4.trans (Same.new hg _))) upd_same⟩
theorem det_bd {a b c x y z u v w : Int} (ha : Sm2 a) (hb : Sm2 b) (hc : Sm2 c) (hx : Sm2 x) (hy : Sm2 y) (hz : Sm2 z) (hu : Sm2 u) (hv : Sm2 v) (hw : Sm2 w) : Bd 603 (det3 a b c x y z u v w) := by
  have m : ∀ {i j k l e : Int}, Sm2 i → Sm2 j → Sm2 k → Sm2 l → Sm2 e → Bd 601 ((i * j - k * l) * e) := fun h1 h2 h3 h4 h5 => Bd.mul (n := 401) (m := 200) (Bd.sub (Bd.mul (n := 200) (m := 200) h1 h2) (Bd.mul (n := 200) (m := 200) h3 h4)) h5
  exact Bd.add (Bd.add (m hb hz hc hy hu) (m hc hx ha hz hv)) (Bd.mono (n := 601) (m ha hy hb hx hw))
theorem minor_sm {p o u : Pt} (hp : p.sm) (ho : o.sm) (hu : u.sm) : Small (minor 0 p o u) ∧ Small (minor 1 p o u) ∧ Small (minor 2 p o u) ∧ Small (minor 3 p o u) := by
  obtain ⟨a, b, c, d⟩ := hp
  obtain ⟨a', b', c', d'⟩ := ho
  obtain ⟨a2, b2, c2, d2⟩ := hu
  exact ⟨Bd.mono (n := 603) (det_bd b c d b' c' d' b2 c2 d2), Bd.mono (n := 603) (det_bd a c d a' c' d' a2 c2 d2), Bd.mono (n := 603) (det_bd a b d a' b' d' a2 b2 d2), Bd.mono (n := 603) (det_bd a b c a' b' c' a2 b2 c2)⟩
theorem ok_plane (T : Tx K mg t1 t2) (F : At K mg "made_plane" s_made_plane ["a", "b", "c", "d"] []) (d_in_lowest_terms : DefOk P w K mg base CX0 2 "in_lowest_terms" ["numbers"] [] spLow) : DefOk P w K mg base CX0 3 "made_plane" ["a", "b", "c", "d"] [] spPlane := by
  refine F.ok sc_made_plane (fun vs H Q E h => ?_) (fun f cdv A outer s H vs Q E hr h => ?_)
  · obtain ⟨a, b, c, d, rfl, _⟩ := h
    rfl
  obtain ⟨a, b, c, d, rfl, sa, sb, sc, sd, nz, q⟩ := h
  have S := sc_made_plane
  refine ⟨_, (pss_cons (ps_if (PW.pt (pw_and (pt_cmpR op_eq (pv 0) pe_int (nomark _)) (pw_and (pt_cmpR op_eq (pv 1) pe_int (nomark _)) (pw_and1 (pt_cmpR op_eq (pv 2) pe_int (nomark _))))))
    pss_never
    pss_nil)
    (pss_one (ps_ret (pe_callD d_in_lowest_terms (hr.mono (by decide)) rfl pass0 (pa_cons (pe_tup (pa_cons (pv 0) (pa_cons (pv 1) (pa_cons (pv 2) (pa_cons (pv 3) pa_nil se_nam) se_nam) se_nam) se_nam)) pa_nil se_tup))))), ?_⟩
  have fin : ∀ p, H p = none → spLow [.ref p] (upd H p (.tup [.int a, .int b, .int c, .int d])) Q (fun _ _ _ => False) := fun p hp =>
    ⟨p, [a, b, c, d], rfl, upd_same, by simp, mem4 sa sb sc sd, by have := gl4 (d := d) nz; omega, fun r H' h1 h2 => q r H' ((Same.new hp _).trans h1) h2⟩
  walk_at "rf"
  by_cases c1 : a = 0
  · rw [if_pos c1]
    by_cases c2 : b = 0
    · rw [if_pos c2]
      by_cases c3 : c = 0
      · exact absurd ⟨c1, c2, c3⟩ nz
      · rw [if_neg c3]
        exact ⟨by decide, fin⟩
    · rw [if_neg c2]
      exact ⟨by decide, fin⟩
  · rw [if_neg c1]
    exact ⟨by decide, fin⟩
theorem ok_through (T : Tx K mg t1 t2) (F : At K mg "plane_through" s_plane_through ["one", "other", "third"] []) (d_rough_plane : DefOk P w K mg base CX0 4 "rough_plane" ["one", "other", "third"] [] spRough) (d_made_plane : DefOk P w K mg base CX0 3 "made_plane" ["a", "b", "c", "d"] [] spPlane) (d_is_plain : DefOk P w K mg base CX0 1 "is_plain" ["plane"] [] spPlain) (d_turned_about : DefOk P w K mg base CX0 1 "turned_about" ["plane"] [] spTurned) : DefOk P w K mg base CX0 5 "plane_through" ["one", "other", "third"] [] spThrough := by
  refine F.ok sc_plane_through (fun vs H Q E h => ?_) (fun f cdv A outer s H vs Q E hr h => ?_)
  · obtain ⟨r, e, t, p, o, u, rfl, _⟩ := h
    rfl
  obtain ⟨r, e, t, p, o, u, rfl, h1, h2, h3, na, q⟩ := h
  have S := sc_plane_through
  refine ⟨_, (pss_cons (ps_set (i := 3) S.nd rfl (Or.inl rfl) (pe_callD d_rough_plane (hr.mono (by decide)) rfl pass0 (pa_cons (pv 0) (pa_cons (pv 1) (pa_cons (pv 2) pa_nil se_nam) se_nam) se_nam)))
    (pss_cons (ps_set (i := 4) S.nd rfl (Or.inl rfl) (pe_callD d_made_plane (hr.mono (by decide)) rfl pass0 (pa_cons (pe_ix ix_tup (pv 3) pe_int (fun _ _ => rfl)) (pa_cons (pe_ix ix_tup (pv 3) pe_int (fun _ _ => rfl)) (pa_cons (pe_ix ix_tup (pv 3) pe_int (fun _ _ => rfl)) (pa_cons (pe_ix ix_tup (pv 3) pe_int (fun _ _ => rfl)) pa_nil se_sub) se_sub) se_sub) se_sub)))
    (pss_cons (ps_if (pt_val (pe_callD d_is_plain (hr.mono (by decide)) rfl pass0 (pa_cons (pv 4) pa_nil se_nam)))
    (pss_one (ps_ret (pv 4)))
    pss_nil)
    (pss_one (ps_ret (pe_callD d_turned_about (hr.mono (by decide)) rfl pass0 (pa_cons (pv 4) pa_nil se_nam))))))), ?_⟩
  obtain ⟨m0, m1, m2, m3⟩ := minor_sm h1.2 h2.2 h3.2
  walk_at "rf"
  refine ⟨r, e, t, p, o, u, rfl, h1, h2, h3, fun g H1 s1 e1 => ?_⟩
  have kg : SqT K H1 g [.int (minor 0 p o u), .int (-minor 1 p o u), .int (minor 2 p o u), .int (minor 3 p o u)] := SqT.of e1
  walk_at "gf"
  refine ⟨_, _, _, _, rfl, m0, m1.neg, m2, m3, fun z => na ⟨z.1, by omega, z.2.2⟩, fun g2 H2 s2 e2 => ?_⟩
  have el : ∃ a b c d, low (rgh p o u) = [a, b, c, d] := ⟨_, _, _, _, rfl⟩
  have e2' : H2 g2 = some (.tup ((low (rgh p o u)).map V.int)) := e2
  obtain ⟨a, b, c, d, el⟩ := el
  unfold pln at q
  rw [el] at q e2'
  walk_at "rf"
  refine ⟨g2, a, b, c, d, rfl, e2', fun H3 s3 => ?_⟩
  have s13 := s1.trans (s2.trans s3)
  dsimp only at q
  cases eb : plb a b c with
  | true =>
    rw [eb, if_pos rfl] at q
    walk_at "rf"
    exact q g2 H3 s13 (s3 _ _ e2')
  | false =>
    rw [eb, if_neg (by decide)] at q
    walk_at "rf"
    refine ⟨g2, [a, b, c, d], rfl, s3 _ _ e2', by simp, fun g3 H4 s4 e4 => ?_⟩
    exact q g3 H4 (s13.trans s4) e4
theorem ok_first (T : Tx K mg t1 t2) (F : At K mg "stands_first" s_stands_first ["one", "other"] []) : DefOk P w K mg base CX0 1 "stands_first" ["one", "other"] [] spFirst := by
  refine F.ok sc_stands_first (fun vs H Q E h => ?_) (fun f cdv A outer s H vs Q E hr h => ?_)
  · obtain ⟨r, e, p, o, rfl, _⟩ := h
    rfl
  obtain ⟨r, e, p, o, rfl, h1, h2, q⟩ := h
  have S := sc_stands_first
  refine ⟨_, (pss_cons (ps_for PassesOwn.never rfl (pi_range1 rfl T.m_range (pa_cons pe_int pa_nil se_con)) (pg_name (i := 2) S.nd rfl (Or.inl rfl))
    (pss_cons (ps_set (i := 3) S.nd rfl (Or.inl rfl) (pe_op op_mulB (pe_ix ix_tup (pv 0) (pv 2) (fun _ _ => rfl)) (pe_ix ix_tup (pv 1) pe_int (fun _ _ => rfl))))
    (pss_cons (ps_set (i := 4) S.nd rfl (Or.inl rfl) (pe_op op_mulB (pe_ix ix_tup (pv 1) (pv 2) (fun _ _ => rfl)) (pe_ix ix_tup (pv 0) pe_int (fun _ _ => rfl))))
    (pss_one (ps_if (pt_cmpR op_ne (pv 3) (pv 4) (nomark _))
    (pss_one (ps_ret (pe_cmpR op_lt (pv 3) (pv 4) (nomark _))))
    pss_nil)))))
    (pss_one (ps_ret pe_bl))), ?_⟩
  have k_h1 := h1.sq (K := K)
  have k_h2 := h2.sq (K := K)
  have f0 := h1.2.fx
  have f1 := h1.2.fy
  have f2 := h1.2.fz
  have f3 := h1.2.fw
  have g0 := h2.2.fx
  have g1 := h2.2.fy
  have g2 := h2.2.fz
  have g3 := h2.2.fw
  unfold sfp at q
  walk_at "rd"
  refine ⟨3, rfl, by decide, by decide, for_range (lo := 0) (n := 3) (fun i σ H2 => H2 = H ∧ ∃ (o0 o1 o2 : Option V), σ = [some (.ref r), some (.ref e), o0, o1, o2] ∧ (1 ≤ i → p.x * o.w = o.x * p.w) ∧ (2 ≤ i → p.y * o.w = o.y * p.w) ∧ (3 ≤ i → p.z * o.w = o.z * p.w)) ⟨rfl, none, none, none, rfl, by simp, by simp, by simp⟩ ?_ ?_⟩
  · rintro i σ H2 hi ⟨rfl, o0, o1, o2, rfl, e0, e1, e2⟩
    match i, hi with
    | 0, _ =>
      walk_at "rd"
      walk_at "go"
      refine ite2 (fun c => ⟨fun _ => c, fun h => absurd h (by decide), fun h => absurd h (by decide)⟩) fun c => ?_
      rw [sf, if_pos c] at q
      exact q
    | 1, _ =>
      have d0 := e0 (by decide)
      walk_at "rd"
      walk_at "go"
      refine ite2 (fun c => ⟨fun _ => d0, fun _ => c, fun h => absurd h (by decide)⟩) fun c => ?_
      rw [sf, if_neg (fun n => n d0), if_pos c] at q
      exact q
    | 2, _ =>
      have d0 := e0 (by decide)
      have d1 := e1 (by decide)
      walk_at "rd"
      walk_at "go"
      refine ite2 (fun c => ⟨fun _ => d0, fun _ => d1, fun _ => c⟩) fun c => ?_
      rw [sf, if_neg (fun n => n d0), if_neg (fun n => n d1), if_pos c] at q
      exact q
  · rintro σ H2 ⟨rfl, o0, o1, o2, rfl, e0, e1, e2⟩
    rw [sf, if_neg (fun n => n (e0 (by decide))), if_neg (fun n => n (e1 (by decide))), if_neg (fun n => n (e2 (by decide)))] at q
    walk_at "rd"
    exact q
theorem ok_axis (T : Tx K mg t1 t2) (F : At K mg "flat_axis" s_flat_axis ["plane"] []) : DefOk P w K mg base CX0 1 "flat_axis" ["plane"] [] spAxis := by
  refine F.ok sc_flat_axis (fun vs H Q E h => ?_) (fun f cdv A outer s H vs Q E hr h => ?_)
  · obtain ⟨r, a, b, c, d, rfl, _⟩ := h
    rfl
  obtain ⟨r, a, b, c, d, rfl, h1, nz, q⟩ := h
  have S := sc_flat_axis
  refine ⟨_, (pss_cons (ps_for PassesOwn.never rfl (pi_range1 rfl T.m_range (pa_cons pe_int pa_nil se_con)) (pg_name (i := 1) S.nd rfl (Or.inl rfl))
    (pss_one (ps_if (pt_cmpR op_ne (pe_ix ix_tup (pv 0) (pv 1) (fun _ _ => rfl)) pe_int (nomark _))
    (pss_one (ps_ret (pv 1)))
    pss_nil)))
    (pss_one (ps_ret pe_non))), ?_⟩
  have k1 : SqT K H r [.int a, .int b, .int c, .int d] := SqT.of h1
  walk_at "rf"
  walk_at "gf"
  refine for_range (lo := 0) (n := 3) (fun i σ H2 => H2 = H ∧ ∃ o1 : Option V, σ = [some (.ref r), o1] ∧ (1 ≤ i → a = 0) ∧ (2 ≤ i → b = 0) ∧ (3 ≤ i → c = 0)) ⟨rfl, none, rfl, by simp, by simp, by simp⟩ ?_ ?_
  · rintro i σ H2 hi ⟨rfl, o1, rfl, e0, e1, e2⟩
    match i, hi with
    | 0, _ =>
      walk_at "rf"
      walk_at "gf"
      refine ite2 (fun cc => ⟨fun _ => cc, fun h => absurd h (by decide), fun h => absurd h (by decide)⟩) fun cc => ?_
      exact q _ (.inl ⟨rfl, cc⟩)
    | 1, _ =>
      have d0 := e0 (by decide)
      walk_at "rf"
      walk_at "gf"
      refine ite2 (fun cc => ⟨fun _ => d0, fun _ => cc, fun h => absurd h (by decide)⟩) fun cc => ?_
      exact q _ (.inr (.inl ⟨rfl, d0, cc⟩))
    | 2, _ =>
      have d0 := e0 (by decide)
      have d1 := e1 (by decide)
      walk_at "rf"
      walk_at "gf"
      refine ite2 (fun cc => ⟨fun _ => d0, fun _ => d1, fun _ => cc⟩) fun cc => ?_
      exact q _ (.inr (.inr ⟨rfl, d0, d1, cc⟩))
  · rintro σ H2 ⟨rfl, o1, rfl, e0, e1, e2⟩
    exact absurd ⟨e0 (by decide), e1 (by decide), e2 (by decide)⟩ nz
def fM1 (H : Hp) (l : Addr) (ps : List Pt) : L2.St → Hp → Prop := fun σ H' => ∃ o2 : Option V, σ = [some (.ref l), some (.int (fF ps : Nat)), o2, none] ∧ H' = H
def fM2 (H : Hp) (l : Addr) (ps : List Pt) (rs : List Addr) : L2.St → Hp → Prop := fun σ H' => ∃ (g : Addr) (o1 o2 : Option V), σ = [some (.ref l), o1, o2, some (.ref g)] ∧ H' g = some (.lst ((rot (fF ps) rs).map V.ref)) ∧ Same H H'
def fM3 (H : Hp) (ps : List Pt) (rs : List Addr) : L2.St → Hp → Prop := fun σ H' => ∃ (g : Addr) (o0 o1 o2 : Option V), σ = [o0, o1, o2, some (.ref g)] ∧ H' g = some (.lst ((frm ps rs).map V.ref)) ∧ Same H H'
theorem rot_len {α : Type} {f : Nat} {l : List α} (h : f ≤ l.length) : (rot f l).length = l.length := by
  unfold rot
  rw [List.length_append, List.length_drop, List.length_take]
  omega
theorem ok_formed (T : Tx K mg t1 t2) (F : At K mg "formed" s_formed ["corners"] []) (d_stands_first : DefOk P w K mg base CX0 1 "stands_first" ["one", "other"] [] spFirst) : DefOk P w K mg base CX0 2 "formed" ["corners"] [] spFormed := by
  refine F.ok sc_formed (fun vs H Q E h => ?_) (fun f cdv A outer s H vs Q E hr h => ?_)
  · obtain ⟨l, rs, ps, rfl, _⟩ := h
    rfl
  obtain ⟨l, rs, ps, rfl, hc, n3, n8, q⟩ := h
  have S := sc_formed
  refine ⟨_, (pss_cons (ps_set (i := 1) S.nd rfl (Or.inl rfl) pe_int)
    (pss_cut (fM1 H l ps) (ps_for PassesOwn.never rfl (pi_range2 rfl T.m_range (pa_cons pe_int (pa_cons (pe_callB call_len_seq rfl T.m_len PySem.boot_len (pa_cons (pv 0) pa_nil se_nam)) pa_nil se_cal) se_con)) (pg_name (i := 2) S.nd rfl (Or.inl rfl))
    (pss_one (ps_if (pt_val (pe_callD d_stands_first (hr.mono (by decide)) rfl pass0 (pa_cons (pe_ix ix_list (pv 0) (pv 2) (fun _ _ => rfl)) (pa_cons (pe_ix ix_list (pv 0) (pv 1) (fun _ _ => rfl)) pa_nil se_sub) se_sub)))
    (pss_one (ps_set (i := 1) S.nd rfl (Or.inl rfl) (pv 2)))
    pss_nil)))
    (pss_cut (fM2 H l ps rs) (ps_set (i := 3) S.nd rfl (Or.inl rfl) (pe_op op_cat (pe_callTy call_list_of rfl T.m_list boot_list (pa_cons (pe_slice sl_list (pv 0) (po_some (pv 1)) po_none) pa_nil se_sub)) (pe_callTy call_list_of rfl T.m_list boot_list (pa_cons (pe_slice sl_list (pv 0) po_none (po_some (pv 1))) pa_nil se_sub))))
    (pss_cut (fM3 H ps rs) (ps_if (pt_val (pe_callD d_stands_first (hr.mono (by decide)) rfl pass0 (pa_cons (pe_ix ix_list (pv 3) (pe_un un_neg pe_int) (fun _ _ => rfl)) (pa_cons (pe_ix ix_list (pv 3) pe_int (fun _ _ => rfl)) pa_nil se_sub) se_sub)))
    (pss_one (ps_set (i := 3) S.nd rfl (Or.inl rfl) (pe_op op_cat (pe_slice sl_list (pv 3) po_none (po_some pe_int)) (pe_listRev rfl rfl T.m_list rfl T.m_reversed (pe_slice sl_list (pv 3) (po_some pe_int) po_none)))))
    pss_nil)
    (pss_one (ps_ret (pe_callTy call_tupleL rfl T.m_tuple boot_tuple (pa_cons (pv 3) pa_nil se_nam)))))))), ?_⟩
  have ln := hc.2.len
  have lm : (rs.map V.ref).length = ps.length := by rw [List.length_map, ln]
  have kl : SqL K H l (rs.map V.ref) := SqL.of hc.1
  walk_at "rf"
  refine ⟨⟨_, .inl kl, by decide, by decide, by omega, by omega, ?_⟩, ?_⟩
  · refine for_range (lo := 1) (n := _) (fun i σ H2 => H2 = H ∧ ∃ o2 : Option V, σ = [some (.ref l), some (.int (argF ps i : Nat)), o2, none]) ⟨rfl, none, rfl⟩ ?_ ?_
    · rintro i σ H2 hi ⟨rfl, o2, rfl⟩
      have hi2 : i + 1 < ps.length := by omega
      have al := argF_le ps i
      obtain ⟨g1, g2⟩ := hc.2.get hi2
      obtain ⟨g3, g4⟩ := hc.2.get (i := argF ps i) (by omega)
      have e1 : atI (rs.map V.ref) (1 + (i : Int)) = some (.ref (ad rs (i + 1))) := by
        have z : (1 + (i : Int)) = ((i + 1 : Nat) : Int) := by omega
        rw [z]
        exact atI_nat g1
      walk_at "rf"
      refine ixL kl e1 ?_
      refine ixL kl (atI_nat g3) ?_
      refine ⟨_, _, _, _, rfl, g2, g4, ?_⟩
      have ea : argF ps (i + 1) = if sfp (pt ps (i + 1)) (pt ps (argF ps i)) = true then i + 1 else argF ps i := rfl
      walk_at "rf"
      cases es : sfp (pt ps (i + 1)) (pt ps (argF ps i)) with
      | true =>
        rw [es, if_pos rfl] at ea
        rw [ea, if_pos rfl]
        exact ⟨by omega, _, rfl⟩
      | false =>
        rw [es, if_neg (by decide)] at ea
        rw [ea, if_neg (by decide)]
        exact ⟨rfl, _, rfl⟩
    · rintro σ H2 ⟨rfl, o2, rfl⟩
      have e : (((List.map V.ref rs).length : Int) - 1).toNat = ps.length - 1 := by omega
      rw [e]
      exact ⟨_, rfl, rfl⟩
  rintro σ1 H1 ⟨o2, rfl, rfl⟩
  have fl : fF ps < ps.length := by have := argF_le ps (ps.length - 1); unfold fF; omega
  walk_at "rf"
  refine ⟨⟨l, _, rfl, kl, fun a1 h1 => ?_⟩, ?_⟩
  · rw [cut_drop]
    have s1 := Same.new h1 (.lst ((rs.map V.ref).drop (fF ps)))
    have e1 : upd H1 a1 (.lst ((rs.map V.ref).drop (fF ps))) a1 = some (.lst ((rs.map V.ref).drop (fF ps))) := upd_same
    generalize upd H1 a1 (.lst ((rs.map V.ref).drop (fF ps))) = J1 at s1 e1 ⊢
    refine ⟨a1, rfl, _, .inl (SqL.of e1), fun a2 h2 => ?_⟩
    have s2 := Same.new h2 (.lst ((rs.map V.ref).drop (fF ps)))
    have e2 : upd J1 a2 (.lst ((rs.map V.ref).drop (fF ps))) a2 = some (.lst ((rs.map V.ref).drop (fF ps))) := upd_same
    generalize upd J1 a2 (.lst ((rs.map V.ref).drop (fF ps))) = J2 at s2 e2 ⊢
    refine ⟨l, _, rfl, (s1.trans s2).seq kl, fun a3 h3 => ?_⟩
    rw [cut_take]
    have s3 := Same.new h3 (.lst ((rs.map V.ref).take (fF ps)))
    have e3 : upd J2 a3 (.lst ((rs.map V.ref).take (fF ps))) a3 = some (.lst ((rs.map V.ref).take (fF ps))) := upd_same
    generalize upd J2 a3 (.lst ((rs.map V.ref).take (fF ps))) = J3 at s3 e3 ⊢
    refine ⟨a3, rfl, _, .inl (SqL.of e3), fun a4 h4 => ?_⟩
    have s4 := Same.new h4 (.lst ((rs.map V.ref).take (fF ps)))
    have e4 : upd J3 a4 (.lst ((rs.map V.ref).take (fF ps))) a4 = some (.lst ((rs.map V.ref).take (fF ps))) := upd_same
    generalize upd J3 a4 (.lst ((rs.map V.ref).take (fF ps))) = J4 at s4 e4 ⊢
    refine ⟨a2, a4, _, _, rfl, rfl, s4 _ _ (s3 _ _ e2), e4, ?_, fun a5 h5 => ⟨a5, _, _, rfl, ?_, s1.trans (s2.trans (s3.trans (s4.trans (Same.new h5 _))))⟩⟩
    · rw [List.length_drop, List.length_take]
      exact Nat.le_trans (show _ ≤ 1000 by omega) (by decide)
    · unfold rot
      rw [List.map_append, List.map_drop, List.map_take]
      exact upd_same
  rintro σ2 H2 ⟨g, o1, o2, rfl, hg, s2⟩
  have hr2 := (hc.2.keep s2.t).rot (fF ps)
  have rl : (rot (fF ps) ps).length = ps.length := rot_len (by omega)
  have rl2 : ((rot (fF ps) rs).map V.ref).length = ps.length := by rw [List.length_map, rot_len (by omega), ln]
  have kg : SqL K H2 g ((rot (fF ps) rs).map V.ref) := SqL.of hg
  obtain ⟨b1, b2⟩ := hr2.get (i := ps.length - 1) (by omega)
  obtain ⟨b3, b4⟩ := hr2.get (i := 1) (by omega)
  have ef : ∀ {α : Type} (x : List α), frm ps x = turn (fB ps) (rot (fF ps) x) := fun _ => rfl
  have eb : fB ps = sfp (pt (rot (fF ps) ps) (ps.length - 1)) (pt (rot (fF ps) ps) 1) := rfl
  walk_at "rf"
  refine ⟨ixL kg (atI_neg1 (n := ps.length - 1) (by omega) b1) (ixL kg (atI_nat (j := 1) b3) ?_), ?_⟩
  · refine ⟨_, _, _, _, rfl, b2, b4, ?_⟩
    rw [← eb]
    have ef := ef rs
    cases es : fB ps with
    | false =>
      rw [es] at ef
      walk_at "rf"
      exact ⟨g, _, _, _, rfl, by rw [ef]; exact hg, s2⟩
    | true =>
      rw [es] at ef
      have ef2 : frm ps rs = (rot (fF ps) rs).take 1 ++ ((rot (fF ps) rs).drop 1).reverse := ef
      walk_at "rf"
      refine ⟨g, _, rfl, kg, fun a1 h1 => ?_⟩
      have c1 : cutV ((rot (fF ps) rs).map V.ref) none (some 1) = ((rot (fF ps) rs).map V.ref).take 1 := cut_take (f := 1)
      rw [c1]
      have s3 := Same.new h1 (.lst (((rot (fF ps) rs).map V.ref).take 1))
      have e1 : upd H2 a1 (.lst (((rot (fF ps) rs).map V.ref).take 1)) a1 = some (.lst (((rot (fF ps) rs).map V.ref).take 1)) := upd_same
      generalize upd H2 a1 (.lst (((rot (fF ps) rs).map V.ref).take 1)) = J1 at s3 e1 ⊢
      refine ⟨g, _, rfl, s3.seq kg, fun a2 h2 => ?_⟩
      have c2 : cutV ((rot (fF ps) rs).map V.ref) (some 1) none = ((rot (fF ps) rs).map V.ref).drop 1 := cut_drop (f := 1)
      rw [c2]
      have s4 := Same.new h2 (.lst (((rot (fF ps) rs).map V.ref).drop 1))
      have e2 : upd J1 a2 (.lst (((rot (fF ps) rs).map V.ref).drop 1)) a2 = some (.lst (((rot (fF ps) rs).map V.ref).drop 1)) := upd_same
      generalize upd J1 a2 (.lst (((rot (fF ps) rs).map V.ref).drop 1)) = J2 at s4 e2 ⊢
      refine ⟨a2, rfl, _, SqL.of e2, fun a3 h3 => ?_⟩
      have s5 := Same.new h3 (.lst (((rot (fF ps) rs).map V.ref).drop 1).reverse)
      have e3 : upd J2 a3 (.lst (((rot (fF ps) rs).map V.ref).drop 1).reverse) a3 = some (.lst (((rot (fF ps) rs).map V.ref).drop 1).reverse) := upd_same
      generalize upd J2 a3 (.lst (((rot (fF ps) rs).map V.ref).drop 1).reverse) = J3 at s5 e3 ⊢
      refine ⟨a1, a3, _, _, rfl, rfl, s5 _ _ (s4 _ _ e1), e3, ?_, fun a4 h4 => ⟨a4, _, _, _, rfl, ?_, s2.trans (s3.trans (s4.trans (s5.trans (Same.new h4 _))))⟩⟩
      · rw [List.length_reverse, List.length_drop, List.length_take]
        exact Nat.le_trans (show _ ≤ 1000 by omega) (by decide)
      · rw [ef2, List.map_append, List.map_take, List.map_reverse, List.map_drop]
        exact upd_same
  rintro σ3 H3 ⟨g, o0, o1, o2, rfl, hg, s3⟩
  walk_at "rf"
  exact ⟨_, SqL.of hg, fun t ht => q t _ (s3.trans (Same.new ht _)) upd_same⟩
theorem ok_planeof (T : Tx K mg t1 t2) (F : At K mg "plane_of" s_plane_of ["board"] []) (d_plane_through : DefOk P w K mg base CX0 5 "plane_through" ["one", "other", "third"] [] spThrough) : DefOk P w K mg base CX0 6 "plane_of" ["board"] [] spPlaneOf := by
  refine F.ok sc_plane_of (fun vs H Q E h => ?_) (fun f cdv A outer s H vs Q E hr h => ?_)
  · obtain ⟨t, rs, ps, rfl, _⟩ := h
    rfl
  obtain ⟨t, rs, ps, rfl, ht, hc, n3, na, q⟩ := h
  have S := sc_plane_of
  refine ⟨_, (pss_one (ps_ret (pe_callD d_plane_through (hr.mono (by decide)) rfl pass0 (pa_cons (pe_ix ix_tup (pv 0) pe_int (fun _ _ => rfl)) (pa_cons (pe_ix ix_tup (pv 0) pe_int (fun _ _ => rfl)) (pa_cons (pe_ix ix_tup (pv 0) pe_int (fun _ _ => rfl)) pa_nil se_sub) se_sub) se_sub)))), ?_⟩
  have kt : SqT K H t (rs.map V.ref) := SqT.of ht
  obtain ⟨a1, a2⟩ := hc.get (i := 0) (by omega)
  obtain ⟨a3, a4⟩ := hc.get (i := 1) (by omega)
  obtain ⟨a5, a6⟩ := hc.get (i := 2) (by omega)
  walk_at "rf"
  refine ixT kt (atI_nat (j := 0) a1) (ixT kt (atI_nat (j := 1) a3) (ixT kt (atI_nat (j := 2) a5) ?_))
  exact ⟨_, _, _, _, _, _, rfl, a2, a4, a6, na, q⟩
def red (t b : Int) : Int × Int := (t / (Int.gcd t b : Nat), b / (Int.gcd t b : Nat))
def nf (t b : Int) : Int × Int := if b < 0 then red (-t) (-b) else red t b
theorem red_facts {t b : Int} (hb : 0 < b) : 1 ≤ (red t b).2 ∧ Int.gcd (red t b).1 (red t b).2 = 1 ∧ (red t b).1 * b = t * (red t b).2 ∧ (red t b).1.natAbs ≤ t.natAbs ∧ (red t b).2.natAbs ≤ b.natAbs := by
  have eg := gl_two t b
  have z := div_pos_of (ns := [t, b]) (n := b) (by simp) hb
  have gp := gl_pos (ns := [t, b]) (n := b) (by simp) (by omega)
  have g1 : gl [t / gl [t, b], b / gl [t, b]] = 1 := gl_div (ns := [t, b]) (by omega)
  have p1 := parts (ns := [t, b]) (a := t) (b := b) (by simp) (by simp)
  rw [gl_two (t / gl [t, b]) (b / gl [t, b])] at g1
  rw [eg] at z g1 p1
  have g2 : Int.gcd (t / (Int.gcd t b : Nat)) (b / (Int.gcd t b : Nat)) = 1 := by omega
  exact ⟨z, g2, p1, Int.natAbs_ediv_le_natAbs .., Int.natAbs_ediv_le_natAbs ..⟩
theorem nf_facts {t b : Int} (hb : b ≠ 0) : 1 ≤ (nf t b).2 ∧ Int.gcd (nf t b).1 (nf t b).2 = 1 ∧ (nf t b).1 * b = t * (nf t b).2 ∧ (nf t b).1.natAbs ≤ t.natAbs ∧ (nf t b).2.natAbs ≤ b.natAbs := by
  by_cases c : b < 0
  · have e : nf t b = red (-t) (-b) := if_pos c
    obtain ⟨a1, a2, a3, a4, a5⟩ := red_facts (t := -t) (b := -b) (by omega)
    rw [e]
    refine ⟨a1, a2, ?_, by omega, by omega⟩
    rw [Int.mul_neg, Int.neg_mul] at a3
    exact Int.neg_inj.mp a3
  · have e : nf t b = red t b := if_neg c
    rw [e]
    exact red_facts (by omega)
def T2 (n : Nat) (H : Hp) (r : Addr) (t b : Int) : Prop := H r = some (.tup [.int t, .int b]) ∧ Bd n t ∧ Bd n b ∧ 1 ≤ b
theorem T2.keep {n : Nat} {H H' : Hp} {r : Addr} {t b : Int} (h : T2 n H r t b) (s : Same H H') : T2 n H' r t b := ⟨s _ _ h.1, h.2⟩
theorem T2.more {n m : Nat} {H : Hp} {r : Addr} {t b : Int} (h : T2 n H r t b) (hm : n ≤ m) : T2 m H r t b := ⟨h.1, Bd.mono h.2.1 hm, Bd.mono h.2.2.1 hm, h.2.2.2⟩
def At2 (H : Hp) (r : Addr) (p : Int × Int) : Prop := H r = some (.tup [.int p.1, .int p.2])
theorem bd_le {n : Nat} {x y : Int} (h : x.natAbs ≤ y.natAbs) (hy : Bd n y) : Bd n x := Nat.lt_of_le_of_lt h hy
theorem nf_T2 {n : Nat} {H : Hp} {r : Addr} {t b : Int} (h : At2 H r (nf t b)) (hb : b ≠ 0) (ht : Bd n t) (hb' : Bd n b) : T2 n H r (nf t b).1 (nf t b).2 := by
  obtain ⟨a1, a2, a3, a4, a5⟩ := nf_facts (t := t) hb
  exact ⟨h, bd_le a4 ht, bd_le a5 hb', a1⟩
def fPlus (t b t' b' : Int) : Int × Int := nf (t * b' + t' * b) (b * b')
def spOp (f : Int → Int → Int → Int → Int × Int) : Sp := fun vs H Q _ => ∃ (n m : Nat) (r e : Addr) (t b t' b' : Int), vs = [.ref r, .ref e] ∧ n + m + 1 ≤ 1990 ∧ T2 n H r t b ∧ T2 m H e t' b' ∧ ∀ (g : Addr) (H' : Hp), Same H H' → At2 H' g (f t b t' b') → Q (.ref g) H'
def tot (fs : List (Int × Int)) : Int × Int := fs.foldl (fun T f => fPlus T.1 T.2 f.1 f.2) (0, 1)
def Frs (H : Hp) (vs : List V) (fs : List (Int × Int)) : Prop := vs.length = fs.length ∧ ∀ (i : Nat) (v : V) (f : Int × Int), vs[i]? = some v → fs[i]? = some f → ∃ p, v = .ref p ∧ T2 180 H p f.1 f.2
def spTotal (K : PySem.W.Frag) : Sp := fun vs H Q _ => ∃ (L : Addr) (us : List V) (fs : List (Int × Int)), vs = [.ref L] ∧ SqL K H L us ∧ Frs H us fs ∧ fs.length ≤ 8 ∧ ∀ (g : Addr) (H' : Hp), Same H H' → At2 H' g (tot fs) → Q (.ref g) H'
theorem tot_snoc (fs : List (Int × Int)) (f : Int × Int) : tot (fs ++ [f]) = fPlus (tot fs).1 (tot fs).2 f.1 f.2 := by
  unfold tot
  rw [List.foldl_append]
  rfl
theorem plus_T2 {n m : Nat} {H : Hp} {g : Addr} {t b t' b' : Int} (h : At2 H g (fPlus t b t' b')) (h1 : Bd n t) (h2 : Bd n b) (h3 : 1 ≤ b) (h1' : Bd m t') (h2' : Bd m b') (h3' : 1 ≤ b') : T2 (n + m + 1) H g (fPlus t b t' b').1 (fPlus t b t' b').2 := by
  have hp := Int.mul_pos (show 0 < b by omega) (show 0 < b' by omega)
  exact nf_T2 h (by omega) (Bd.add (Bd.mul h1 h2') (by have z := Bd.mul h1' h2; rw [Nat.add_comm] at z; exact z)) (Bd.mono (n := n + m) (Bd.mul h2 h2') (by omega))
theorem ad_get {rs : List Addr} {i : Nat} (h : i < rs.length) : (rs.map V.ref)[i]? = some (.ref (ad rs i)) := by
  unfold ad
  rw [List.getElem?_map, List.getD_eq_getElem?_getD, List.getElem?_eq_getElem h]
  rfl
theorem refs_of : ∀ {ys : List V}, (∀ (i : Nat) (y : V), ys[i]? = some y → ∃ e : Addr, y = .ref e) → ∃ es : List Addr, ys = es.map V.ref
  | [], _ => ⟨[], rfl⟩
  | y :: ys, h => by
    obtain ⟨e, rfl⟩ := h 0 y rfl
    obtain ⟨es, rfl⟩ := refs_of (ys := ys) fun i y hy => h (i + 1) y hy
    exact ⟨e :: es, rfl⟩
def spFr : Sp := fun vs H Q _ => ∃ t b : Int, vs = [.int t, .int b] ∧ Small t ∧ Small b ∧ b ≠ 0 ∧ ∀ (r : Addr) (H' : Hp), Same H H' → At2 H' r (nf t b) → Q (.ref r) H'
def cr2 (k : Int) (p o : Pt) : Int := if k = 0 then p.y * o.z - p.z * o.y else if k = 1 then p.x * o.z - p.z * o.x else p.x * o.y - p.y * o.x
def spEdges : Sp := fun vs H Q _ => ∃ (b : Addr) (rs : List Addr), vs = [.ref b] ∧ H b = some (.tup (rs.map V.ref)) ∧ 3 ≤ rs.length ∧ rs.length ≤ 8 ∧
  ∀ (L : Addr) (H' : Hp) (es : List Addr), Same H H' → H' L = some (.lst (es.map V.ref)) → es.length = rs.length → (∀ i, i < rs.length → H' (ad es i) = some (.tup [.ref (ad rs ((i + (rs.length - 1)) % rs.length)), .ref (ad rs i)])) → Q (.ref L) H'
def spSwept : Sp := fun vs H Q _ => ∃ (e r r' : Addr) (k : Int) (p o : Pt), vs = [.ref e, .int k] ∧ H e = some (.tup [.ref r, .ref r']) ∧ Is4 H r p ∧ Is4 H r' o ∧ 0 ≤ k ∧ k ≤ 2 ∧ 1 ≤ p.w ∧ 1 ≤ o.w ∧ ∀ (g : Addr) (H' : Hp), Same H H' → At2 H' g (nf (cr2 k p o) (p.w * o.w)) → Q (.ref g) H'
theorem ok_frac (T : Tx K mg t1 t2) (F : At K mg "fraction" s_fraction ["top", "bottom"] []) (d_in_lowest_terms : DefOk P w K mg base CX0 2 "in_lowest_terms" ["numbers"] [] spLow) : DefOk P w K mg base CX0 3 "fraction" ["top", "bottom"] [] spFr := by
  refine F.ok sc_fraction (fun vs H Q E h => ?_) (fun f cdv A outer s H vs Q E hr h => ?_)
  · obtain ⟨a, b, rfl, _⟩ := h
    rfl
  obtain ⟨a, b, rfl, ha, hb, hb0, q⟩ := h
  have S := sc_fraction
  refine ⟨_, (pss_cons (ps_if (pt_cmpR op_eq (pv 1) pe_int (nomark _))
    pss_never
    pss_nil)
    (pss_cons (ps_if (pt_cmpR op_lt (pv 1) pe_int (nomark _))
    (pss_one (ps_ret (pe_callD d_in_lowest_terms (hr.mono (by decide)) rfl pass0 (pa_cons (pe_tup (pa_cons (pe_un un_neg (pv 0)) (pa_cons (pe_un un_neg (pv 1)) pa_nil se_un) se_un)) pa_nil se_tup))))
    pss_nil)
    (pss_one (ps_ret (pe_callD d_in_lowest_terms (hr.mono (by decide)) rfl pass0 (pa_cons (pe_tup (pa_cons (pv 0) (pa_cons (pv 1) pa_nil se_nam) se_nam)) pa_nil se_tup)))))), ?_⟩
  walk_at "rf"
  rw [if_neg hb0]
  have two : ∀ {i j : Int}, Small i → Small j → ∀ n ∈ [i, j], Small n := fun hi hj n hn => by
    rcases List.mem_cons.mp hn with rfl | hn
    · exact hi
    · rw [List.mem_singleton] at hn; subst hn; exact hj
  refine ite2 (fun c1 => ?_) fun c1 => ?_
  · have en : nf a b = red (-a) (-b) := if_pos c1
    rw [en] at q
    refine ⟨by decide, fun p hp => ?_⟩
    refine ⟨p, [-a, -b], rfl, upd_same, by simp, two ha.neg hb.neg, ?_, fun r H' h1 h2 => q r H' ((Same.new hp _).trans h1) ?_⟩
    · have := gl_pos (ns := [-a, -b]) (n := -b) (by simp) (by omega)
      omega
    · rw [gl_two] at h2
      exact h2
  · have en : nf a b = red a b := if_neg c1
    rw [en] at q
    refine ⟨by decide, fun p hp => ?_⟩
    refine ⟨p, [a, b], rfl, upd_same, by simp, two ha hb, ?_, fun r H' h1 h2 => q r H' ((Same.new hp _).trans h1) ?_⟩
    · have := gl_pos (ns := [a, b]) (n := b) (by simp) (by omega)
      omega
    · rw [gl_two] at h2
      exact h2
theorem ok_plus (T : Tx K mg t1 t2) (F : At K mg "plus" s_plus ["one", "other"] []) (d_fraction : DefOk P w K mg base CX0 3 "fraction" ["top", "bottom"] [] spFr) : DefOk P w K mg base CX0 4 "plus" ["one", "other"] [] (spOp fPlus) := by
  refine F.ok sc_plus (fun vs H Q E h => ?_) (fun f cdv A outer s H vs Q E hr h => ?_)
  · obtain ⟨n, m, r, e, t, b, t2, b2, rfl, _⟩ := h
    rfl
  obtain ⟨n, m, r, e, t, b, t2, b2, rfl, nm, ⟨h1, bt, bb, b1⟩, ⟨h2, bt2, bb2, b21⟩, q⟩ := h
  have S := sc_plus
  refine ⟨_, (pss_one (ps_ret (pe_callD d_fraction (hr.mono (by decide)) rfl pass0 (pa_cons (pe_op op_add (pe_op op_mulB (pe_ix ix_tup (pv 0) pe_int (fun _ _ => rfl)) (pe_ix ix_tup (pv 1) pe_int (fun _ _ => rfl))) (pe_op op_mulB (pe_ix ix_tup (pv 1) pe_int (fun _ _ => rfl)) (pe_ix ix_tup (pv 0) pe_int (fun _ _ => rfl)))) (pa_cons (pe_op op_mulB (pe_ix ix_tup (pv 0) pe_int (fun _ _ => rfl)) (pe_ix ix_tup (pv 1) pe_int (fun _ _ => rfl))) pa_nil se_bin) se_bin)))), ?_⟩
  have k1 : SqT K H r [.int t, .int b] := SqT.of h1
  have k2 : SqT K H e [.int t2, .int b2] := SqT.of h2
  have f1 : Fit t := bt.fit (by omega)
  have f2 : Fit b := bb.fit (by omega)
  have f3 : Fit t2 := bt2.fit (by omega)
  have f4 : Fit b2 := bb2.fit (by omega)
  have hp : b * b2 ≠ 0 := by
    have := Int.mul_pos (show 0 < b by omega) (show 0 < b2 by omega)
    omega
  have sB : Small (b * b2) := Bd.mono (n := n + m) (Bd.mul bb bb2) (by omega)
  have sT := Bd.mono (n := n + m + 1) (m := 1990) (Bd.add (Bd.mul bt bb2) (by have z := Bd.mul bt2 bb; rw [Nat.add_comm] at z; exact z)) (by omega)
  walk_at "rf"
  walk_at "gf"
  exact ⟨_, _, rfl, sT, sB, hp, q⟩
theorem ok_total (T : Tx K mg t1 t2) (F : At K mg "total_of" s_total_of ["some"] []) (d_plus : DefOk P w K mg base CX0 4 "plus" ["one", "other"] [] (spOp fPlus)) : DefOk P w K mg base CX0 5 "total_of" ["some"] [] (spTotal K) := by
  refine F.ok sc_total_of (fun vs H Q E h => ?_) (fun f cdv A outer s H vs Q E hr h => ?_)
  · obtain ⟨L, us, fs, rfl, _⟩ := h
    rfl
  obtain ⟨L, us, fs, rfl, hL, hf, h12, q⟩ := h
  have S := sc_total_of
  refine ⟨_, (pss_cons (ps_set (i := 1) S.nd rfl (Or.inl rfl) (pe_tup (pa_cons pe_int (pa_cons pe_int pa_nil se_con) se_con)))
    (pss_cons (ps_for PassesOwn.never rfl (pi_list (pv 0)) (pg_name (i := 2) S.nd rfl (Or.inl rfl))
    (pss_one (ps_set (i := 1) S.nd rfl (Or.inl rfl) (pe_callD d_plus (hr.mono (by decide)) rfl pass0 (pa_cons (pv 1) (pa_cons (pv 2) pa_nil se_nam) se_nam)))))
    (pss_one (ps_ret (pv 1))))), ?_⟩
  walk_at "rf"
  refine ⟨by decide, fun p hp => ?_⟩
  have sp := Same.new hp (.tup [.int 0, .int 1])
  have ep : upd H p (.tup [.int 0, .int 1]) p = some (.tup [.int 0, .int 1]) := upd_same
  generalize upd H p (.tup [.int 0, .int 1]) = H1 at sp ep ⊢
  have hL1 := sp.seq hL
  walk_at "gf"
  refine for_list (K := K) (a := L) (xs := us) (fun i σ H2 => Same H1 H2 ∧ i ≤ us.length ∧ ∃ (g : Addr) (o : Option V), σ = [some (.ref L), some (.ref g), o] ∧ T2 (181 * i + 1) H2 g (tot (fs.take i)).1 (tot (fs.take i)).2) ⟨Same.refl _, Nat.zero_le _, p, none, rfl, ep, (by show (0 : Nat) < 2 ^ 1; decide), (by show (1 : Nat) < 2 ^ 1; decide), (by show (1 : Int) ≤ 1; decide)⟩ (fun i σ H2 _ ⟨h, _⟩ => h.seq hL1) ?_ ?_
  · rintro i v σ H2 hi ⟨s2, li, g, o, rfl, hg⟩
    have il : i < us.length := (List.getElem?_eq_some_iff.mp hi).1
    have l1 := hf.1
    obtain ⟨f, ef⟩ : ∃ f, fs[i]? = some f := ⟨fs[i]'(by omega), List.getElem?_eq_getElem (by omega)⟩
    obtain ⟨x, rfl, hx⟩ := hf.2 i v f hi ef
    have hx2 := (hx.keep sp).keep s2
    walk_at "rf"
    refine ⟨_, _, g, x, _, _, _, _, rfl, by omega, hg, hx2, fun g' H3 s3 e3 => ?_⟩
    have et : tot (fs.take (i + 1)) = fPlus (tot (fs.take i)).1 (tot (fs.take i)).2 f.1 f.2 := by
      rw [List.take_add_one, ef]
      exact tot_snoc _ f
    have z := plus_T2 e3 hg.2.1 hg.2.2.1 hg.2.2.2 hx2.2.1 hx2.2.2.1 hx2.2.2.2
    rw [← et] at z
    have z' := z.more (m := 181 * (i + 1) + 1) (by omega)
    exact ⟨s2.trans s3, il, g', rfl, z'⟩
  · rintro σ H2 ⟨s2, li, g, o, rfl, hg⟩
    rw [hf.1, List.take_length] at hg
    exact ⟨_, rfl, q g H2 (sp.trans s2) hg.1⟩
theorem ok_edges (T : Tx K mg t1 t2) (F : At K mg "edges_of" s_edges_of ["board"] []) : DefOk P w K mg base CX0 1 "edges_of" ["board"] [] spEdges := by
  refine F.ok sc_edges_of (fun vs H Q E h => ?_) (fun f cdv A outer s H vs Q E hr h => ?_)
  · obtain ⟨b, rs, rfl, _⟩ := h
    rfl
  obtain ⟨b, rs, rfl, hb, n3, n8, q⟩ := h
  have S := sc_edges_of
  refine ⟨_, (pss_one (ps_ret (pe_comp rfl (N' := ["k", "board"]) (ix := [0]) ⟨rfl, rfl, by decide +kernel, by decide +kernel, rfl, by decide +kernel, (show ∀ y : Str × NameKind, y ∈ _ → y.2 = NameKind.free → (defScope s_edges_of).names.lookup y.1 = some .cell ∨ (defScope s_edges_of).names.lookup y.1 = some .free from by decide +kernel), (.cons rfl (.inl rfl) rfl .nil)⟩ (pi_range1 rfl T.m_range (pa_cons (pe_callB call_len_seq rfl T.m_len PySem.boot_len (pa_cons (pv 0) pa_nil se_nam)) pa_nil se_cal)) (fun _ _ _ _ => pg_name (i := 0) (show (["k", "board"] : List Str).Nodup from by decide +kernel) rfl (Or.inl rfl)) (fun _ _ _ _ => pts_nil) (fun _ _ _ _ => (pe_tup (pa_cons (pe_ix (ix_tupK (K := K) rfl) (pv 1) (pe_op op_sub (pv 0) pe_int) (fun _ _ => rfl)) (pa_cons (pe_ix (ix_tupK (K := K) rfl) (pv 1) (pv 0) (fun _ _ => rfl)) pa_nil se_sub) se_sub)))))), ?_⟩
  have lm : (rs.map V.ref).length = rs.length := List.length_map _
  have kb : SqT K H b (rs.map V.ref) := SqT.of hb
  walk_at "rf"
  refine ⟨_, .inr kb, by omega, by omega, fun acc hacc => ?_⟩
  have e0 : (((rs.map V.ref).length : Int)).toNat = rs.length := by omega
  rw [e0]
  refine compRq (n := rs.length) (fun i y H' => ∃ e : Addr, y = .ref e ∧ H' e = some (.tup [.ref (ad rs ((i + (rs.length - 1)) % rs.length)), .ref (ad rs i)])) (fun i y J J' ⟨e, h1, h2⟩ st => ⟨e, h1, st _ _ h2⟩) (by omega) hacc ?_ ?_
  · intro i H3 R hi s4 hR
    have kb3 := s4.tup kb
    have g1 : (rs.map V.ref)[i]? = some (.ref (ad rs i)) := ad_get hi
    have g2 : atI (rs.map V.ref) (0 + (i : Int) - 1) = some (.ref (ad rs ((i + (rs.length - 1)) % rs.length))) := by
      by_cases i0 : i = 0
      · subst i0
        have e1 : (0 + (rs.length - 1)) % rs.length = rs.length - 1 := by rw [Nat.zero_add]; exact Nat.mod_eq_of_lt (by omega)
        rw [e1]
        exact atI_neg1 (n := rs.length - 1) (by omega) (ad_get (by omega))
      · have e1 : (i + (rs.length - 1)) % rs.length = i - 1 := by
          have z : i + (rs.length - 1) = i - 1 + rs.length := by omega
          rw [z, Nat.add_mod_right]
          exact Nat.mod_eq_of_lt (by omega)
        have e2 : (0 + (i : Int) - 1) = ((i - 1 : Nat) : Int) := by omega
        rw [e1, e2]
        exact atI_nat (ad_get (by omega))
    walk_at "rf"
    refine ixT kb3 g2 ?_
    refine ixT kb3 (by rw [Int.zero_add]; exact atI_nat g1) ?_
    exact ⟨by decide, fun e he => hR _ _ (Same.new he _) ⟨e, rfl, upd_same⟩⟩
  intro ys H3 s4 e4 l4 p4
  obtain ⟨es, rfl⟩ : ∃ es : List Addr, ys = es.map V.ref := refs_of fun i y hy => let ⟨e, h1, _⟩ := p4 i y hy; ⟨e, h1⟩
  rw [List.length_map] at l4
  refine q acc H3 es s4 e4 l4 fun i hi => ?_
  obtain ⟨e, h1, h2⟩ := p4 i _ (ad_get (by omega))
  cases h1
  exact h2
theorem ok_swept (T : Tx K mg t1 t2) (F : At K mg "swept_by" s_swept_by ["edge", "axis"] []) (d_without : DefOk P w K mg base CX0 1 "without" ["spot", "place"] [] spWithout) (d_fraction : DefOk P w K mg base CX0 3 "fraction" ["top", "bottom"] [] spFr) : DefOk P w K mg base CX0 4 "swept_by" ["edge", "axis"] [] spSwept := by
  refine F.ok sc_swept_by (fun vs H Q E h => ?_) (fun f cdv A outer s H vs Q E hr h => ?_)
  · obtain ⟨e, r, r', k, p, o, rfl, _⟩ := h
    rfl
  obtain ⟨e, r, r', k, p, o, rfl, he, hp, ho, k0, k2, pw, ow, q⟩ := h
  have S := sc_swept_by
  refine ⟨_, (pss_cons (ps_set (i := 2) S.nd rfl (Or.inl rfl) (pe_callD d_without (hr.mono (by decide)) rfl pass0 (pa_cons (pe_ix ix_tup (pv 0) pe_int (fun _ _ => rfl)) (pa_cons (pv 1) pa_nil se_nam) se_sub)))
    (pss_cons (ps_set (i := 3) S.nd rfl (Or.inl rfl) (pe_callD d_without (hr.mono (by decide)) rfl pass0 (pa_cons (pe_ix ix_tup (pv 0) pe_int (fun _ _ => rfl)) (pa_cons (pv 1) pa_nil se_nam) se_sub)))
    (pss_one (ps_ret (pe_callD d_fraction (hr.mono (by decide)) rfl pass0 (pa_cons (pe_op op_sub (pe_op op_mulB (pe_ix ix_tup (pv 2) pe_int (fun _ _ => rfl)) (pe_ix ix_tup (pv 3) pe_int (fun _ _ => rfl))) (pe_op op_mulB (pe_ix ix_tup (pv 2) pe_int (fun _ _ => rfl)) (pe_ix ix_tup (pv 3) pe_int (fun _ _ => rfl)))) (pa_cons (pe_op op_mulB (pe_ix ix_tup (pv 2) pe_int (fun _ _ => rfl)) (pe_ix ix_tup (pv 3) pe_int (fun _ _ => rfl))) pa_nil se_bin) se_bin)))))), ?_⟩
  have ke : SqT K H e [.ref r, .ref r'] := SqT.of he
  walk_at "rf"
  walk_at "gf"
  refine ⟨r, k, p, rfl, hp, k0, by omega, fun g1 H1 s1 e1 => ?_⟩
  have ke1 := s1.tup ke
  walk_at "rf"
  walk_at "gf"
  refine ⟨r', k, o, rfl, ho.keep s1, k0, by omega, fun g2 H2 s2 e2 => ?_⟩
  have e1' := s2 _ _ e1
  have sp := hp.2
  have so := ho.2
  have fp1 := sp.fx
  have fp2 := sp.fy
  have fp3 := sp.fz
  have fp4 := sp.fw
  have fo1 := so.fx
  have fo2 := so.fy
  have fo3 := so.fz
  have fo4 := so.fw
  have hw : p.w * o.w ≠ 0 := by have := Int.mul_pos (show 0 < p.w by omega) (show 0 < o.w by omega); omega
  have sw : Small (p.w * o.w) := Bd.mono (n := 200 + 200) (Bd.mul sp.2.2.2 so.2.2.2) (by decide)
  have sc : ∀ {a b c d : Int}, Sm2 a → Sm2 b → Sm2 c → Sm2 d → Small (a * b - c * d) := fun h1 h2 h3 h4 => Bd.mono (n := 200 + 200 + 1) (Bd.sub (Bd.mul h1 h2) (Bd.mul h3 h4)) (by decide)
  have fin : ∀ (g : Addr) (H' : Hp), Same H2 H' → At2 H' g (nf (cr2 k p o) (p.w * o.w)) → Q (.ref g) H' := fun g H' s e => q g H' (s1.trans (s2.trans s)) e
  have ek : k = 0 ∨ k = 1 ∨ k = 2 := by omega
  rcases ek with rfl | rfl | rfl
  · have k1 : SqT K H2 g1 [.int p.y, .int p.z, .int p.w] := SqT.of e1'
    have k2' : SqT K H2 g2 [.int o.y, .int o.z, .int o.w] := SqT.of e2
    walk_at "gf"
    exact ⟨_, _, rfl, sc sp.2.1 so.2.2.1 sp.2.2.1 so.2.1, sw, hw, fin⟩
  · have k1 : SqT K H2 g1 [.int p.x, .int p.z, .int p.w] := SqT.of e1'
    have k2' : SqT K H2 g2 [.int o.x, .int o.z, .int o.w] := SqT.of e2
    walk_at "gf"
    exact ⟨_, _, rfl, sc sp.1 so.2.2.1 sp.2.2.1 so.1, sw, hw, fin⟩
  · have k1 : SqT K H2 g1 [.int p.x, .int p.y, .int p.w] := SqT.of e1'
    have k2' : SqT K H2 g2 [.int o.x, .int o.y, .int o.w] := SqT.of e2
    walk_at "gf"
    exact ⟨_, _, rfl, sc sp.1 so.2.1 sp.2.1 so.1, sw, hw, fin⟩
def Pt.lq (p : Pt) : Prop := Bd 70 p.x ∧ Bd 70 p.y ∧ Bd 70 p.z ∧ Bd 70 p.w ∧ 1 ≤ p.w
def fsw (k : Int) (ps : List Pt) (i : Nat) : Int × Int := nf (cr2 k (pt ps ((i + (ps.length - 1)) % ps.length)) (pt ps i)) ((pt ps ((i + (ps.length - 1)) % ps.length)).w * (pt ps i).w)
def fss (k : Int) (ps : List Pt) : List (Int × Int) := (List.range ps.length).map (fsw k ps)
def ab (n : Int) : Int := if n < 0 then -n else n
theorem ab_bd {n : Nat} {i : Int} (h : Bd n i) : Bd n (ab i) := by
  unfold ab
  split
  · exact Bd.neg h
  · exact h
theorem ab_pos {i : Int} (h : i ≠ 0) : 0 < ab i := by unfold ab; split <;> omega
def axv (k : Int) (a b c : Int) : Int := if k = 0 then a else if k = 1 then b else c
def AxOk (k a b c : Int) : Prop := (k = 0 ∧ a ≠ 0) ∨ (k = 1 ∧ a = 0 ∧ b ≠ 0) ∨ (k = 2 ∧ a = 0 ∧ b = 0 ∧ c ≠ 0)
def spSize : Sp := fun vs H Q _ => ∃ (b : Addr) (rs : List Addr) (ps : List Pt), vs = [.ref b] ∧ H b = some (.tup (rs.map V.ref)) ∧ Sps H rs ps ∧ 3 ≤ ps.length ∧ ps.length ≤ 8 ∧ (∀ i, i < ps.length → (pt ps i).lq) ∧ ¬ noArrow (pt ps 0) (pt ps 1) (pt ps 2) ∧
  ∀ (g : Addr) (H' : Hp) (k x y z v : Int), Same H H' → pln (rgh (pt ps 0) (pt ps 1) (pt ps 2)) = [x, y, z, v] → AxOk k x y z → T2 1690 H' g (nf (ab (tot (fss k ps)).1) ((tot (fss k ps)).2 * 2 * ab (axv k x y z))).1 (nf (ab (tot (fss k ps)).1) ((tot (fss k ps)).2 * 2 * ab (axv k x y z))).2 → Q (.ref g) H'
theorem fsw_T2 {k : Int} {p o : Pt} (hp : p.lq) (ho : o.lq) {H : Hp} {r : Addr} (h : At2 H r (nf (cr2 k p o) (p.w * o.w))) : T2 180 H r (nf (cr2 k p o) (p.w * o.w)).1 (nf (cr2 k p o) (p.w * o.w)).2 := by
  have hw := Int.mul_pos (show 0 < p.w by have := hp.2.2.2.2; omega) (show 0 < o.w by have := ho.2.2.2.2; omega)
  have m : ∀ {a b c d : Int}, Bd 70 a → Bd 70 b → Bd 70 c → Bd 70 d → Bd 180 (a * b - c * d) := fun h1 h2 h3 h4 => Bd.mono (n := 70 + 70 + 1) (Bd.sub (Bd.mul h1 h2) (Bd.mul h3 h4))
  refine nf_T2 h (by omega) ?_ (Bd.mono (n := 70 + 70) (Bd.mul hp.2.2.2.1 ho.2.2.2.1))
  unfold cr2
  split
  · exact m hp.2.1 ho.2.2.1 hp.2.2.1 ho.2.1
  · split
    · exact m hp.1 ho.2.2.1 hp.2.2.1 ho.1
    · exact m hp.1 ho.2.1 hp.2.1 ho.1
theorem tot_bd : ∀ (n : Nat) (fs : List (Int × Int)), fs.length = n → (∀ f ∈ fs, Bd 180 f.1 ∧ Bd 180 f.2 ∧ 1 ≤ f.2) → Bd (181 * n + 1) (tot fs).1 ∧ Bd (181 * n + 1) (tot fs).2 ∧ 1 ≤ (tot fs).2
  | 0, fs, h, _ => by
    have e : fs = [] := List.length_eq_zero_iff.mp h
    subst e
    exact ⟨by show (0 : Nat) < 2 ^ 1; decide, by show (1 : Nat) < 2 ^ 1; decide, by show (1 : Int) ≤ 1; decide⟩
  | n + 1, fs, h, hf => by
    have ne : fs ≠ [] := fun e => by rw [e] at h; cases h
    have e := List.dropLast_concat_getLast ne
    have l : fs.dropLast.length = n := by rw [List.length_dropLast, h]; rfl
    obtain ⟨b1, b2, b3⟩ := tot_bd n fs.dropLast l fun f hm => hf f (List.dropLast_subset _ hm)
    obtain ⟨c1, c2, c3⟩ := hf _ (List.getLast_mem ne)
    rw [← e, tot_snoc]
    have hp := Int.mul_pos (show 0 < (tot fs.dropLast).2 by omega) (show 0 < (fs.getLast ne).2 by omega)
    obtain ⟨a1, a2, a3, a4, a5⟩ := nf_facts (t := (tot fs.dropLast).1 * (fs.getLast ne).2 + (fs.getLast ne).1 * (tot fs.dropLast).2) (b := (tot fs.dropLast).2 * (fs.getLast ne).2) (by omega)
    have z1 : Bd (181 * n + 1 + 180 + 1) ((tot fs.dropLast).1 * (fs.getLast ne).2 + (fs.getLast ne).1 * (tot fs.dropLast).2) := Bd.add (n := 181 * n + 1 + 180) (Bd.mul (n := 181 * n + 1) (m := 180) b1 c2) (by have z := Bd.mul (n := 180) (m := 181 * n + 1) c1 b2; rw [Nat.add_comm] at z; exact z)
    have z2 : Bd (181 * n + 1 + 180) ((tot fs.dropLast).2 * (fs.getLast ne).2) := Bd.mul (n := 181 * n + 1) (m := 180) b2 c2
    exact ⟨Bd.mono (bd_le a4 z1) (by omega), Bd.mono (bd_le a5 z2) (by omega), a1⟩
theorem rgh_bd {p o u : Pt} (hp : p.lq) (ho : o.lq) (hu : u.lq) : ∀ n ∈ rgh p o u, Bd 220 n := by
  have m : ∀ {a b c x y z u v w : Int}, Bd 70 a → Bd 70 b → Bd 70 c → Bd 70 x → Bd 70 y → Bd 70 z → Bd 70 u → Bd 70 v → Bd 70 w → Bd 220 (det3 a b c x y z u v w) := fun h1 h2 h3 h4 h5 h6 h7 h8 h9 => by
    unfold det3
    exact Bd.mono (n := 141 + 70 + 1 + 1) (Bd.add (Bd.add (Bd.mul (Bd.sub (Bd.mul h2 h6) (Bd.mul h3 h5)) h7) (Bd.mul (Bd.sub (Bd.mul h3 h4) (Bd.mul h1 h6)) h8)) (Bd.mono (n := 141 + 70) (Bd.mul (Bd.sub (Bd.mul h1 h5) (Bd.mul h2 h4)) h9)))
  obtain ⟨p1, p2, p3, p4, _⟩ := hp
  obtain ⟨o1, o2, o3, o4, _⟩ := ho
  obtain ⟨u1, u2, u3, u4, _⟩ := hu
  intro n hn
  simp only [rgh, List.mem_cons, List.not_mem_nil, or_false] at hn
  rcases hn with rfl | rfl | rfl | rfl
  · exact m p2 p3 p4 o2 o3 o4 u2 u3 u4
  · exact Bd.neg (m p1 p3 p4 o1 o3 o4 u1 u3 u4)
  · exact m p1 p2 p4 o1 o2 o4 u1 u2 u4
  · exact m p1 p2 p3 o1 o2 o3 u1 u2 u3
theorem bd_div {n : Nat} {i g : Int} (h : Bd n i) : Bd n (i / g) := Nat.lt_of_le_of_lt (Int.natAbs_ediv_le_natAbs i g) h
theorem pln_four (a b c d : Int) : ∃ x y z v : Int, pln [a, b, c, d] = [x, y, z, v] ∧ (∀ m : Nat, (∀ n ∈ [a, b, c, d], Bd m n) → Bd m x ∧ Bd m y ∧ Bd m z ∧ Bd m v) ∧ ∃ e : Int, (e = 1 ∨ e = -1) ∧ gl [a, b, c, d] * x = e * a ∧ gl [a, b, c, d] * y = e * b ∧ gl [a, b, c, d] * z = e * c ∧ gl [a, b, c, d] * v = e * d := by
  have z : pln [a, b, c, d] = if plb (a / gl [a, b, c, d]) (b / gl [a, b, c, d]) (c / gl [a, b, c, d]) = true then low [a, b, c, d] else (low [a, b, c, d]).map fun n => -n := rfl
  have e1 : gl [a, b, c, d] * (a / gl [a, b, c, d]) = a := Int.mul_ediv_cancel' (gl_dvd (by simp))
  have e2 : gl [a, b, c, d] * (b / gl [a, b, c, d]) = b := Int.mul_ediv_cancel' (gl_dvd (by simp))
  have e3 : gl [a, b, c, d] * (c / gl [a, b, c, d]) = c := Int.mul_ediv_cancel' (gl_dvd (by simp))
  have e4 : gl [a, b, c, d] * (d / gl [a, b, c, d]) = d := Int.mul_ediv_cancel' (gl_dvd (by simp))
  rw [z]
  split
  · exact ⟨_, _, _, _, rfl, fun m h => ⟨bd_div (h a (by simp)), bd_div (h b (by simp)), bd_div (h c (by simp)), bd_div (h d (by simp))⟩, 1, .inl rfl, by rw [e1, Int.one_mul], by rw [e2, Int.one_mul], by rw [e3, Int.one_mul], by rw [e4, Int.one_mul]⟩
  · refine ⟨_, _, _, _, rfl, fun m h => ⟨Bd.neg (bd_div (h a (by simp))), Bd.neg (bd_div (h b (by simp))), Bd.neg (bd_div (h c (by simp))), Bd.neg (bd_div (h d (by simp)))⟩, -1, .inr rfl, ?_, ?_, ?_, ?_⟩
    · rw [Int.mul_neg, e1]; omega
    · rw [Int.mul_neg, e2]; omega
    · rw [Int.mul_neg, e3]; omega
    · rw [Int.mul_neg, e4]; omega
theorem ok_size (T : Tx K mg t1 t2) (F : At K mg "size_of" s_size_of ["board"] []) (d_plane_of : DefOk P w K mg base CX0 6 "plane_of" ["board"] [] spPlaneOf) (d_flat_axis : DefOk P w K mg base CX0 1 "flat_axis" ["plane"] [] spAxis) (d_edges_of : DefOk P w K mg base CX0 1 "edges_of" ["board"] [] spEdges) (d_swept_by : DefOk P w K mg base CX0 4 "swept_by" ["edge", "axis"] [] spSwept) (d_total_of : DefOk P w K mg base CX0 5 "total_of" ["some"] [] (spTotal K)) (d_fraction : DefOk P w K mg base CX0 3 "fraction" ["top", "bottom"] [] spFr) : DefOk P w K mg base CX0 7 "size_of" ["board"] [] spSize := by
  refine F.ok sc_size_of (fun vs H Q E h => ?_) (fun f cdv A outer s H vs Q E hr h => ?_)
  · obtain ⟨b, rs, ps, rfl, _⟩ := h
    rfl
  obtain ⟨b, rs, ps, rfl, hb, hs, n3, n8, lo, na, q⟩ := h
  have S := sc_size_of
  refine ⟨_, (pss_cons (ps_set (i := 1) S.nd rfl (Or.inl rfl) (pe_callD d_plane_of (hr.mono (by decide)) rfl pass0 (pa_cons (pv 0) pa_nil se_nam)))
    (pss_cons (ps_set (i := 2) S.nd rfl (Or.inr rfl) (pe_callD d_flat_axis (hr.mono (by decide)) rfl pass0 (pa_cons (pv 1) pa_nil se_nam)))
    (pss_cons (ps_set (i := 3) S.nd rfl (Or.inl rfl) (pe_callD d_total_of (hr.mono (by decide)) rfl pass0 (pa_cons (pe_comp rfl (N' := ["edge", "axis"]) (ix := [2]) ⟨rfl, rfl, by decide +kernel, by decide +kernel, rfl, by decide +kernel, (show ∀ y : Str × NameKind, y ∈ _ → y.2 = NameKind.free → (defScope s_size_of).names.lookup y.1 = some .cell ∨ (defScope s_size_of).names.lookup y.1 = some .free from by decide +kernel), (.cons rfl (.inl rfl) rfl .nil)⟩ (pi_list (pe_callD d_edges_of (hr.mono (by decide)) rfl pass0 (pa_cons (pv 0) pa_nil se_nam))) (fun _ _ _ _ => pg_name (i := 0) (show (["edge", "axis"] : List Str).Nodup from by decide +kernel) rfl (Or.inl rfl)) (fun _ _ _ _ => pts_nil) (fun _ _ _ _ => (pe_callD d_swept_by (hr.mono (by decide)) rfl pass0 (pa_cons (pv 0) (pa_cons (pv 1) pa_nil se_nam) se_nam)))) pa_nil se_cmp)))
    (pss_one (ps_ret (pe_callD d_fraction (hr.mono (by decide)) rfl pass0 (pa_cons (pe_callB call_abs rfl T.m_abs boot_abs (pa_cons (pe_ix ix_tup (pv 3) pe_int (fun _ _ => rfl)) pa_nil se_sub)) (pa_cons (pe_op op_mulB (pe_op op_mulB (pe_ix ix_tup (pv 3) pe_int (fun _ _ => rfl)) pe_int) (pe_callB call_abs rfl T.m_abs boot_abs (pa_cons (pe_ix ix_tup (pv 1) (pv 2) (fun _ _ => rfl)) pa_nil se_sub))) pa_nil se_bin) se_cal))))))), ?_⟩
  have ln := hs.len
  have lm : (rs.map V.ref).length = ps.length := by rw [List.length_map, ln]
  obtain ⟨x, y, z, v, ep, bd, e0, he0, x1, x2, x3, x4⟩ := pln_four (minor 0 (pt ps 0) (pt ps 1) (pt ps 2)) (-minor 1 (pt ps 0) (pt ps 1) (pt ps 2)) (minor 2 (pt ps 0) (pt ps 1) (pt ps 2)) (minor 3 (pt ps 0) (pt ps 1) (pt ps 2))
  have ep' : pln (rgh (pt ps 0) (pt ps 1) (pt ps 2)) = [x, y, z, v] := ep
  obtain ⟨bx, by', bz, bv⟩ := bd 220 (rgh_bd (lo 0 (by omega)) (lo 1 (by omega)) (lo 2 (by omega)))
  have nz : ¬ (x = 0 ∧ y = 0 ∧ z = 0) := fun h => na (by
    rw [h.1, Int.mul_zero] at x1
    rw [h.2.1, Int.mul_zero] at x2
    rw [h.2.2, Int.mul_zero] at x3
    refine ⟨?_, ?_, ?_⟩
    · rcases he0 with e | e <;> rw [e] at x1 <;> omega
    · rcases he0 with e | e <;> rw [e] at x2 <;> omega
    · rcases he0 with e | e <;> rw [e] at x3 <;> omega)
  walk_at "rf"
  refine ⟨b, rs, ps, rfl, hb, hs, n3, na, fun g H1 s1 e1 => ?_⟩
  rw [ep'] at e1
  try walk_at "rf"
  refine ⟨g, x, y, z, v, rfl, e1, nz, fun k hk => ?_⟩
  have k02 : 0 ≤ k ∧ k ≤ 2 := by omega
  refine ⟨b, rs, rfl, s1 _ _ hb, by omega, by omega, fun L H2 es s2 e2 l2 p2 => ?_⟩
  have kL : SqL K H2 L (es.map V.ref) := SqL.of e2
  have hs2 := (hs.keep s1.t).keep s2.t
  refine ⟨L, rfl, ⟨_, kL⟩, fun acc hacc => ?_⟩
  refine compLq (zs := es.map V.ref) (fun i y H' => ∃ r : Addr, y = .ref r ∧ At2 H' r (fsw k ps i)) (fun i y J J' ⟨r, h1, h2⟩ st => ⟨r, h1, st _ _ h2⟩) (by rw [List.length_map]; omega) hacc kL ?_ ?_
  · intro j zv H3 R hj s3 hR
    have hjl : j < es.length := by have := (List.getElem?_eq_some_iff.mp hj).1; rw [List.length_map] at this; exact this
    rw [ad_get hjl] at hj
    cases hj
    have hm : (j + (ps.length - 1)) % ps.length < ps.length := Nat.mod_lt _ (by omega)
    have pj := p2 j (by omega)
    rw [ln] at pj
    walk_at "rf"
    refine ⟨ad es j, _, _, k, _, _, rfl, s3 _ _ pj, (hs2.get hm).2.keep s3, (hs2.get (by omega)).2.keep s3, k02.1, k02.2, (lo _ hm).2.2.2.2, (lo j (by omega)).2.2.2.2, fun g3 H4 s4 e4 => hR _ _ s4 ⟨g3, rfl, e4⟩⟩
  intro ys H3 s3 e3 l3 p3
  have f1 : Frs H3 ys (fss k ps) := by
    refine ⟨by rw [l3, List.length_map, l2, ln]; unfold fss; rw [List.length_map, List.length_range], fun i v f h1 h2 => ?_⟩
    have hi : i < ps.length := by have := (List.getElem?_eq_some_iff.mp h1).1; rw [l3, List.length_map, l2, ln] at this; exact this
    obtain ⟨r, rfl, hr⟩ := p3 i v h1
    have e5 : f = fsw k ps i := by
      unfold fss at h2
      rw [List.getElem?_map, List.getElem?_range hi] at h2
      cases h2
      rfl
    rw [e5]
    exact ⟨r, rfl, fsw_T2 (lo _ (Nat.mod_lt _ (by omega))) (lo i hi) hr⟩
  have fl : (fss k ps).length = ps.length := by unfold fss; rw [List.length_map, List.length_range]
  refine ⟨acc, ys, fss k ps, rfl, SqL.of e3, f1, by omega, fun h4 H4 s4 e4 => ?_⟩
  obtain ⟨tb1, tb2, tb3⟩ := tot_bd _ (fss k ps) rfl fun f hf => by
    obtain ⟨i, hi, rfl⟩ := List.mem_map.mp hf
    have hi := List.mem_range.mp hi
    have z := fsw_T2 (k := k) (lo _ (Nat.mod_lt (i + (ps.length - 1)) (by omega))) (lo i hi) (H := fun _ => some (.tup [.int (fsw k ps i).1, .int (fsw k ps i).2])) (r := 0) rfl
    exact ⟨z.2.1, z.2.2.1, z.2.2.2⟩
  rw [fl] at tb1 tb2
  have tc1 : Bd 1449 (tot (fss k ps)).1 := Bd.mono tb1 (by omega)
  have tc2 : Bd 1449 (tot (fss k ps)).2 := Bd.mono tb2 (by omega)
  generalize hTB : tot (fss k ps) = TB at e4 tc1 tc2 tb3
  have k4 : SqT K H4 h4 [.int TB.1, .int TB.2] := SqT.of e4
  have kg : SqT K H4 g [.int x, .int y, .int z, .int v] := SqT.of (s4 _ _ (s3 _ _ (s2 _ _ e1)))
  have g1 := tc1.fit
  have g2 := tc2.fit
  try walk_at "rf"
  walk_at "gf"
  have bav : Bd 220 (axv k x y z) := by
    unfold axv
    split
    · exact bx
    · split
      · exact by'
      · exact bz
  have nav : axv k x y z ≠ 0 := by
    unfold axv
    rcases hk with ⟨rfl, h⟩ | ⟨rfl, _, h⟩ | ⟨rfl, _, _, h⟩
    · exact h
    · exact h
    · exact h
  have ixk : atI [V.int x, V.int y, V.int z, V.int v] k = some (.int (axv k x y z)) := by
    rcases hk with ⟨rfl, h⟩ | ⟨rfl, _, h⟩ | ⟨rfl, _, _, h⟩ <;> rfl
  have b2 : Bd 1451 (TB.2 * 2) := Bd.mul (n := 1449) (m := 2) tc2 (by show (2 : Nat) < 2 ^ 2; decide)
  have ap := ab_pos nav
  have dp := Int.mul_pos (show 0 < TB.2 * 2 by omega) ap
  refine ixT kg ixk ⟨_, rfl, b2.fit, (ab_bd bav).fit, _, _, rfl, Bd.mono (ab_bd tc1), Bd.mono (n := 1451 + 220) (Bd.mul b2 (ab_bd bav)), ?_, fun g5 H5 s5 e5 => q g5 H5 k x y z v (s1.trans (s2.trans (s3.trans (s4.trans s5)))) ep' hk (by rw [hTB]; exact nf_T2 e5 (Int.ne_of_gt dp) (Bd.mono (ab_bd tc1)) (Bd.mono (n := 1451 + 220) (Bd.mul b2 (ab_bd bav))))⟩
  exact Int.ne_of_gt dp
def tsd (k : Int) (ps : List Pt) (P : Pt) (i : Nat) : Int := sgn (minor k (pt ps 0) (pt ps 1) (pt ps 2)) * sgn (minor k (pt ps ((i + (ps.length - 1)) % ps.length)) (pt ps i) P)
def spMSpot : Sp := fun vs H Q _ => ∃ x y z w : Int, vs = [.int x, .int y, .int z, .int w] ∧ Small x ∧ Small y ∧ Small z ∧ Small w ∧ 0 < w ∧ ∀ (r : Addr) (H' : Hp), Same H H' → H' r = some (.tup ((low [x, y, z, w]).map V.int)) → Q (.ref r) H'
structure Tb (n : Nat) (H : Hp) (r : Addr) (p : Pt) : Prop where
  at_ : H r = some (.tup [.int p.x, .int p.y, .int p.z, .int p.w])
  bx : Bd n p.x
  by_ : Bd n p.y
  bz : Bd n p.z
  bw : Bd n p.w
  w1 : 1 ≤ p.w
def mi (p q : Pt) : Int := q.w / (Int.gcd p.w q.w : Nat)
def yo (p q : Pt) : Int := p.w / (Int.gcd p.w q.w : Nat)
def sq4 (p q : Pt) : Pt := ⟨mi p q * p.x + yo p q * q.x, mi p q * p.y + yo p q * q.y, mi p q * p.z + yo p q * q.z, mi p q * p.w⟩
def spSummed : Sp := fun vs H Q _ => ∃ (n m : Nat) (r e : Addr) (p q : Pt), vs = [.ref r, .ref e] ∧ n + m + 1 ≤ 1990 ∧ Tb n H r p ∧ Tb m H e q ∧ ∀ (g : Addr) (H' : Hp), Same H H' → Tb (n + m + 1) H' g (sq4 p q) → Q (.ref g) H'
def mid (ps : List Pt) : Pt := (ps.drop 1).foldl sq4 (pt ps 0)
theorem ok_mspot (T : Tx K mg t1 t2) (F : At K mg "made_spot" s_made_spot ["x", "y", "z", "w"] []) (d_in_lowest_terms : DefOk P w K mg base CX0 2 "in_lowest_terms" ["numbers"] [] spLow) : DefOk P w K mg base CX0 3 "made_spot" ["x", "y", "z", "w"] [] spMSpot := by
  refine F.ok sc_made_spot (fun vs H Q E h => ?_) (fun f cdv A outer s H vs Q E hr h => ?_)
  · obtain ⟨x, y, z, w, rfl, _⟩ := h
    rfl
  obtain ⟨x, y, z, w, rfl, sx, sy, sz, sw, w0, q⟩ := h
  have S := sc_made_spot
  refine ⟨_, (pss_cons (ps_if (pt_cmpR op_eq (pv 3) pe_int (nomark _))
    pss_never
    pss_nil)
    (pss_cons (ps_if (pt_cmpR op_lt (pv 3) pe_int (nomark _))
    (pss_one (ps_ret (pe_callD d_in_lowest_terms (hr.mono (by decide)) rfl pass0 (pa_cons (pe_tup (pa_cons (pe_un un_neg (pv 0)) (pa_cons (pe_un un_neg (pv 1)) (pa_cons (pe_un un_neg (pv 2)) (pa_cons (pe_un un_neg (pv 3)) pa_nil se_un) se_un) se_un) se_un)) pa_nil se_tup))))
    pss_nil)
    (pss_one (ps_ret (pe_callD d_in_lowest_terms (hr.mono (by decide)) rfl pass0 (pa_cons (pe_tup (pa_cons (pv 0) (pa_cons (pv 1) (pa_cons (pv 2) (pa_cons (pv 3) pa_nil se_nam) se_nam) se_nam) se_nam)) pa_nil se_tup)))))), ?_⟩
  walk_at "rf"
  rw [if_neg (show ¬ w = 0 by omega), if_neg (show ¬ w < 0 by omega)]
  refine ⟨by decide, fun p hp => ?_⟩
  refine ⟨p, [x, y, z, w], rfl, upd_same, by simp, mem4 sx sy sz sw, ?_, fun r H' h1 h2 => q r H' ((Same.new hp _).trans h1) h2⟩
  have := gl_pos (ns := [x, y, z, w]) (n := w) (by simp) (by omega)
  omega
def vdiv (g : Int) (v : V) : V := match v with | .int i => .int (i / g) | _ => v
structure Tri where
  x : Int
  y : Int
  z : Int
def Tri.bd (n : Nat) (v : Tri) : Prop := Bd n v.x ∧ Bd n v.y ∧ Bd n v.z
def T3 (H : Hp) (r : Addr) (v : Tri) : Prop := H r = some (.tup [.int v.x, .int v.y, .int v.z]) ∧ v.bd 42
theorem T3.keep {H H' : Hp} {r : Addr} {v : Tri} (h : T3 H r v) (s : SameT H H') : T3 H' r v := ⟨s _ _ h.1, h.2⟩
theorem T3.t {H : Hp} {r : Addr} {v : Tri} (h : T3 H r v) : Tup3 H r v.x v.y v.z := ⟨h.1, Bd.mono h.2.1, Bd.mono h.2.2.1, Bd.mono h.2.2.2⟩
def Tri.nz (v : Tri) : Prop := ¬ (v.x = 0 ∧ v.y = 0 ∧ v.z = 0)
def Nine (H : Hp) (N : Addr) (ms : List Int) : Prop := H N = some (.lst (ms.map V.int)) ∧ ms.length = 9 ∧ ∀ m ∈ ms, Bd 41 m
def vv (v : Tri) : Nat → Tri
  | 0 => v
  | 1 => ⟨v.x + 1, v.y, v.z⟩
  | 2 => ⟨v.x, v.y + 1, v.z⟩
  | _ => ⟨v.x, v.y, v.z + 1⟩
def Few (H : Hp) (rs : List Addr) (v : Tri) : Prop := ∀ (i : Nat) (r : Addr), rs[i]? = some r → T3 H r (vv v i)
def nzb (c v : Tri) : Bool := !decide ([c.y * v.z - c.z * v.y, c.z * v.x - c.x * v.z, c.x * v.y - c.y * v.x] = [0, 0, 0])
def ringP (i : Nat) : Int := match i with | 0 => 1 | 1 => 2 | 2 => 3 | 3 => 3 | 4 => 2 | 5 => 1 | _ => 0
def ringQ (i : Nat) : Int := match i with | 0 => 0 | 1 => 0 | 2 => 1 | 3 => 2 | 4 => 3 | 5 => 3 | 6 => 2 | _ => 1
/-- references to places -/
inductive Plc (H : Hp) : List Addr → List Tri → Prop
  | nil : Plc H [] []
  | cons {r : Addr} {v : Tri} {rs : List Addr} {vs : List Tri} (h : H r = some (.tup [.int v.x, .int v.y, .int v.z])) (t : Plc H rs vs) : Plc H (r :: rs) (v :: vs)
theorem Plc.keep {H H' : Hp} {rs : List Addr} {vs : List Tri} (h : Plc H rs vs) (s : SameT H H') : Plc H' rs vs := by
  induction h with
  | nil => exact .nil
  | cons h _ ih => exact .cons (s _ _ h) ih
theorem Plc.len {H : Hp} {rs : List Addr} {vs : List Tri} (h : Plc H rs vs) : rs.length = vs.length := by
  induction h with
  | nil => rfl
  | cons h _ ih => rw [List.length_cons, List.length_cons, ih]
def Ix (ix : List Nat) : Prop := 3 ≤ ix.length ∧ ix.length ≤ 8 ∧ ix.Pairwise (· < ·) ∧ ∀ i ∈ ix, i < 8
def plc (s t : Int) (i : Nat) : Tri := ⟨ringP i * s, ringQ i * t, s * t⟩
theorem ring_bd (i : Nat) : (0 ≤ ringP i ∧ ringP i ≤ 3) ∧ 0 ≤ ringQ i ∧ ringQ i ≤ 3 := by
  refine ⟨?_, ?_⟩
  · unfold ringP
    split <;> decide
  · unfold ringQ
    split <;> decide
theorem Plc.get {H : Hp} {rs : List Addr} {vs : List Tri} (h : Plc H rs vs) : ∀ {i : Nat} {v : Tri}, vs[i]? = some v → rs[i]? = some (ad rs i) ∧ H (ad rs i) = some (.tup [.int v.x, .int v.y, .int v.z]) := by
  induction h with
  | nil => intro i v hv; simp at hv
  | cons h _ ih =>
    intro i v hv
    cases i with
    | zero =>
      cases hv
      exact ⟨rfl, h⟩
    | succ i => exact ih hv
theorem range8 {i : Nat} (h : i < 8) : ((List.range 8).map (plc 1 1))[i]? = some (plc 1 1 i) := by
  rw [List.getElem?_map, List.getElem?_range h]
  rfl
theorem Plc.sub {H : Hp} {rs : List Addr} (h : Plc H rs ((List.range 8).map (plc 1 1))) : ∀ ix : List Nat, (∀ i ∈ ix, i < 8) → Plc H (ix.map (ad rs)) (ix.map (plc 1 1))
  | [], _ => .nil
  | i :: r, hi => .cons (h.get (range8 (hi i List.mem_cons_self))).2 (Plc.sub h r fun j hj => hi j (List.mem_cons_of_mem _ hj))
theorem compLM {a : Addr} {zs : List V} {n : Nat} {ρ : L2.St} {g : TG} {te : TE} {acc : Addr} {Z : Hp → Prop} {H1 : Hp} (p : Nat → V → Hp → Prop) (st : Stab p) (hn : zs.length < 1000) (hacc : H1 acc = none) (hz : SqL K H1 a zs)
    (hs : ∀ (i : Nat) (z : V) (v0 : L2.St) (H3 : Hp) (R : V → Hp → Prop), zs[i]? = some z → v0.length = n → Same H1 H3 → (∀ y H4, Same H3 H4 → p i y H4 → R y H4) → g z (v0 ++ ρ) H3 fun σ2 H2 => (∃ v : L2.St, v.length = n ∧ σ2 = v ++ ρ) ∧ te σ2 H2 R)
    (hd : ∀ ys H', Same H1 H' → H' acc = some (.lst ys) → ys.length = zs.length → (∀ i y, ys[i]? = some y → p i y H') → Z H')
    (mono : ∀ z σ H (A B : L2.St → Hp → Prop), (∀ σ' H', A σ' H' → B σ' H') → g z σ H A → g z σ H B) : CompGoM (Itl K a) n ρ g tNoIf te acc Z H1 := by
  refine ⟨fun i m xs H => (Same H1 H ∧ H acc = some (.lst xs) ∧ xs.length = i ∧ ∀ j y, xs[j]? = some y → p j y H) ∧ i ≤ zs.length ∧ m = zs.length - i, ⟨zs.length, ⟨Same.new hacc _, upd_same, rfl, fun j y h => by simp at h⟩, Nat.zero_le _, rfl⟩, ?_⟩
  rintro i m xs H ⟨⟨g1, g2, hl, hp⟩, hi, rfl⟩
  have sq := g1.seq hz
  by_cases hlt : i < zs.length
  · have ez : zs[i]? = some zs[i] := List.getElem?_eq_getElem hlt
    refine .inr ⟨⟨zs, zs[i], sq, ez⟩, (fun y H4 => Same H H4 ∧ p i y H4), fun _ => False, ?_, fun _ z => z.elim, ?_⟩
    · rintro y H4 ⟨s4, py⟩
      have u := SameT.upd (ys := xs ++ [y]) (s4 _ _ g2)
      refine ⟨s4 _ _ g2, lt_line (by omega), zs.length - (i + 1), by omega, ⟨Same.keepN (g1.trans s4) hacc _, upd_same, by rw [List.length_append, hl]; rfl, ?_⟩, hlt, rfl⟩
      exact snocP hl (fun j z hz => st _ _ _ _ (hp j z hz) (s4.t.trans u)) (st _ _ _ _ py u)
    · rintro v0 x H' l0 ⟨rfl, hx⟩
      have ex : x = zs[i] := by
        have z := hx zs sq
        rw [ez] at z
        exact (Option.some.inj z).symm
      subst ex
      refine mono _ _ _ _ _ (fun σ' H'' h => ?_) (hs i _ v0 H' (fun y H4 => Same H' H4 ∧ p i y H4) ez l0 g1 fun y H4 s4 py => ⟨s4, py⟩)
      refine ⟨h.1, ?_⟩
      simp only [tNoIf, if_true]
      exact h.2
  · have : i = zs.length := by omega
    subst this
    exact .inl ⟨⟨zs, sq, Nat.le_refl _⟩, hd xs H g1 g2 hl hp⟩
def Rg (H : Hp) (g : Addr) (rs : List Addr) : Prop := H g = some (.lst (rs.map V.ref)) ∧ Plc H rs ((List.range 8).map (plc 1 1))
def hM0 (H : Hp) (L : Addr) : L2.St → Hp → Prop := fun σ H' => ∃ (g : Addr) (rs : List Addr), σ = [some (.ref L), some (.ref g), none, none, none, none] ∧ Rg H' g rs ∧ Same H H'
def Tri.pl (v : Tri) : Prop := 0 ≤ v.x ∧ v.x ≤ 100 ∧ 0 ≤ v.y ∧ v.y ≤ 100 ∧ 1 ≤ v.z ∧ v.z ≤ 100
def dt (a b c : Tri) : Int := det3 a.x a.y a.z b.x b.y b.z c.x c.y c.z
theorem dt_rot (a b c : Tri) : dt b c a = dt a b c := by
  unfold dt det3
  grind
theorem ring_pos : ∀ i, i < 8 → ∀ j, j < 8 → ∀ k, k < 8 → i < j → j < k → 0 < det3 (ringP i) (ringQ i) 1 (ringP j) (ringQ j) 1 (ringP k) (ringQ k) 1 := by decide +kernel
theorem plc_pos {s t : Int} {i j k : Nat} (s1 : 1 ≤ s) (t1 : 1 ≤ t) (hk : k < 8) (h1 : i < j) (h2 : j < k) : 0 < dt (plc s t i) (plc s t j) (plc s t k) := by
  have r := ring_pos i (by omega) j (by omega) k hk h1 h2
  have e : dt (plc s t i) (plc s t j) (plc s t k) = s * t * (s * t) * det3 (ringP i) (ringQ i) 1 (ringP j) (ringQ j) 1 (ringP k) (ringQ k) 1 := by
    unfold dt plc det3
    grind
  rw [e]
  have st : 0 < s * t := Int.mul_pos (by omega) (by omega)
  exact Int.mul_pos (Int.mul_pos st st) r
theorem ix_inc {ix : List Nat} (h : Ix ix) {a b : Nat} (hab : a < b) (hb : b < ix.length) : ix.getD a 0 < ix.getD b 0 := by
  have z := List.pairwise_iff_getElem.mp h.2.2.1 a b (by omega) hb hab
  rw [List.getD_eq_getElem?_getD, List.getD_eq_getElem?_getD, List.getElem?_eq_getElem (by omega), List.getElem?_eq_getElem hb]
  exact z
theorem ix_lt {ix : List Nat} (h : Ix ix) {a : Nat} (ha : a < ix.length) : ix.getD a 0 < 8 := by
  rw [List.getD_eq_getElem?_getD, List.getElem?_eq_getElem ha]
  exact h.2.2.2 _ (List.getElem_mem ha)
def Qa (s t : Int) (ix : List Nat) (a : Nat) : Tri := plc s t (ix.getD a 0)
theorem D_pos {s t : Int} {ix : List Nat} (h : Ix ix) (s1 : 1 ≤ s) (t1 : 1 ≤ t) {a b c : Nat} (hab : a < b) (hbc : b < c) (hc : c < ix.length) : 0 < dt (Qa s t ix a) (Qa s t ix b) (Qa s t ix c) :=
  plc_pos s1 t1 (ix_lt h hc) (ix_inc h hab (by omega)) (ix_inc h hbc hc)
theorem D_cyc {s t : Int} {ix : List Nat} (h : Ix ix) (s1 : 1 ≤ s) (t1 : 1 ≤ t) {i j : Nat} (hi : i < ix.length) (j1 : 1 ≤ j) (jn : j < ix.length - 1) : 0 < dt (Qa s t ix ((i + (ix.length - 1)) % ix.length)) (Qa s t ix i) (Qa s t ix ((i + j) % ix.length)) := by
  by_cases i0 : i = 0
  · subst i0
    have e1 : (0 + (ix.length - 1)) % ix.length = ix.length - 1 := by rw [Nat.zero_add]; exact Nat.mod_eq_of_lt (by omega)
    have e2 : (0 + j) % ix.length = j := by rw [Nat.zero_add]; exact Nat.mod_eq_of_lt (by omega)
    rw [e1, e2, ← dt_rot]
    exact D_pos h s1 t1 (by omega) (by omega) (by omega)
  · have e1 : (i + (ix.length - 1)) % ix.length = i - 1 := by
      have z : i + (ix.length - 1) = i - 1 + ix.length := by omega
      rw [z, Nat.add_mod_right]
      exact Nat.mod_eq_of_lt (by omega)
    rw [e1]
    by_cases c : i + j < ix.length
    · rw [Nat.mod_eq_of_lt c]
      exact D_pos h s1 t1 (by omega) (by omega) c
    · have e2 : (i + j) % ix.length = i + j - ix.length := by
        rw [Nat.mod_eq_sub_mod (by omega)]
        exact Nat.mod_eq_of_lt (by omega)
      rw [e2, dt_rot]
      exact D_pos h s1 t1 (by omega) (by omega) hi
theorem rot_pt {l : List Pt} {f i : Nat} (hf : f < l.length) (hi : i < l.length) : pt (rot f l) i = pt l ((f + i) % l.length) := by
  unfold pt rot
  rw [List.getD_eq_getElem?_getD, List.getD_eq_getElem?_getD]
  by_cases c : f + i < l.length
  · rw [Nat.mod_eq_of_lt c, List.getElem?_append_left (by rw [List.length_drop]; omega), List.getElem?_drop]
  · have e : (f + i) % l.length = f + i - l.length := by
      rw [Nat.mod_eq_sub_mod (by omega)]
      exact Nat.mod_eq_of_lt (by omega)
    rw [e, List.getElem?_append_right (by rw [List.length_drop]; omega), List.length_drop, List.getElem?_take, if_pos (by omega)]
    congr 2
    omega
theorem pt_mem {l : List Pt} {i : Nat} (h : i < l.length) : pt l i ∈ l := by
  unfold pt
  rw [List.getD_eq_getElem?_getD, List.getElem?_eq_getElem h]
  exact List.getElem_mem h
theorem mem_pt {l : List Pt} {p : Pt} (h : p ∈ l) : ∃ i, i < l.length ∧ pt l i = p := by
  obtain ⟨i, hi, e⟩ := List.mem_iff_getElem.mp h
  refine ⟨i, hi, ?_⟩
  unfold pt
  rw [List.getD_eq_getElem?_getD, List.getElem?_eq_getElem hi]
  exact e
theorem ix1 : ∀ n, n < 9 → ∀ a, a < n → ∀ f, f < n → ∀ i, i < n → (a + (f + i) % n) % n = ((a + f) % n + i) % n ∧ (a + (n - (f + i) % n)) % n = ((a + (n - f)) % n + (n - i)) % n := by decide +kernel
theorem ix2 : ∀ n, n < 9 → ∀ a, a < n → ∀ i, i < n → (a + (n - i) % n) % n = (a + (n - i)) % n ∧ (a + (n - (n - i) % n)) % n = (a + i) % n := by decide +kernel
theorem ix3 : ∀ n, n < 9 → ∀ a, a < n → ∀ i, i < n → (a + (n - 1 - i)) % n = ((a + (n - 1)) % n + (n - i)) % n ∧ (a + (n - (n - 1 - i))) % n = ((a + 1) % n + i) % n := by decide +kernel
theorem ix4 : ∀ n, n < 9 → ∀ a, a < n → ∀ i, i < n → (a + (i + (n - a)) % n) % n = i ∧ (a + (n - (a + (n - i)) % n)) % n = i := by decide +kernel
theorem ix5 : ∀ n, n < 9 → ∀ a, a < n → ∀ i, i < n → (a + (i + (n - 1)) % n) % n = ((a + i) % n + (n - 1)) % n ∧ (a + (n - i)) % n = ((a + (n - (i + (n - 1)) % n)) % n + (n - 1)) % n := by decide +kernel
theorem ix5b : ∀ n, n < 9 → ∀ a, a < n → ∀ i, i < n → ∀ j, j < n → (a + (i + j) % n) % n = ((a + i) % n + j) % n ∧ (1 ≤ j → (a + (n - (i + j) % n)) % n = ((a + (n - (i + (n - 1)) % n)) % n + (n - 1 - j)) % n) := by decide +kernel
/-- the same ring, begun elsewhere or told the other way round -/
def Dih (ps qs : List Pt) : Prop := qs.length = ps.length ∧ ∃ a, a < ps.length ∧ ((∀ i, i < ps.length → pt qs i = pt ps ((a + i) % ps.length)) ∨ (∀ i, i < ps.length → pt qs i = pt ps ((a + (ps.length - i)) % ps.length)))
theorem Dih.refl {ps : List Pt} (h : 3 ≤ ps.length) : Dih ps ps := ⟨rfl, 0, by omega, .inl fun i hi => by rw [Nat.zero_add, Nat.mod_eq_of_lt hi]⟩
theorem Dih.rot {ps qs : List Pt} (d : Dih ps qs) (n8 : ps.length ≤ 8) {f : Nat} (hf : f < ps.length) : Dih ps (rot f qs) := by
  obtain ⟨hl, a, ha, d⟩ := d
  have rp : ∀ i, i < ps.length → pt (My.rot f qs) i = pt qs ((f + i) % ps.length) := fun i hi => by rw [rot_pt (by omega) (by omega), hl]
  have m : ∀ i, (f + i) % ps.length < ps.length := fun i => Nat.mod_lt _ (by omega)
  refine ⟨by rw [rot_len (by omega), hl], ?_⟩
  rcases d with d | d
  · refine ⟨(a + f) % ps.length, Nat.mod_lt _ (by omega), .inl fun i hi => ?_⟩
    rw [rp i hi, d _ (m i), (ix1 _ (by omega) a ha f hf i hi).1]
  · refine ⟨(a + (ps.length - f)) % ps.length, Nat.mod_lt _ (by omega), .inr fun i hi => ?_⟩
    rw [rp i hi, d _ (m i), (ix1 _ (by omega) a ha f hf i hi).2]
theorem turn_at {l : List Pt} {i : Nat} (hi : i < l.length) : pt (turn true l) i = pt l ((l.length - i) % l.length) := by
  match l, hi with
  | x :: r, hi =>
    have e : turn true (x :: r) = x :: r.reverse := rfl
    rw [e]
    cases i with
    | zero => rw [Nat.sub_zero, Nat.mod_self]; rfl
    | succ j =>
      have hj : j < r.length := by simpa using hi
      have e2 : ((x :: r).length - (j + 1)) % (x :: r).length = r.length - 1 - j + 1 := by
        rw [List.length_cons, Nat.mod_eq_of_lt (by omega)]
        omega
      rw [e2]
      unfold pt
      rw [List.getD_eq_getElem?_getD, List.getD_eq_getElem?_getD, List.getElem?_cons_succ, List.getElem?_cons_succ, List.getElem?_reverse hj]
theorem turn_len {l : List Pt} (b : Bool) : (turn b l).length = l.length := by
  unfold turn
  cases b
  · rfl
  · rw [if_pos rfl, List.length_append, List.length_reverse, List.length_take, List.length_drop]
    omega
theorem Dih.turn {ps qs : List Pt} (d : Dih ps qs) (n8 : ps.length ≤ 8) (b : Bool) : Dih ps (turn b qs) := by
  cases b with
  | false => exact d
  | true =>
    obtain ⟨hl, a, ha, d⟩ := d
    refine ⟨by rw [turn_len, hl], a, ha, ?_⟩
    have tp : ∀ i, i < ps.length → pt (My.turn true qs) i = pt qs ((ps.length - i) % ps.length) := fun i hi => by rw [turn_at (by omega), hl]
    have m : ∀ i, (ps.length - i) % ps.length < ps.length := fun i => Nat.mod_lt _ (by omega)
    rcases d with d | d
    · exact .inr fun i hi => by rw [tp i hi, d _ (m i), (ix2 _ (by omega) a ha i hi).1]
    · exact .inl fun i hi => by rw [tp i hi, d _ (m i), (ix2 _ (by omega) a ha i hi).2]
theorem rev_at {l : List Pt} {i : Nat} (hi : i < l.length) : pt l.reverse i = pt l (l.length - 1 - i) := by
  unfold pt
  rw [List.getD_eq_getElem?_getD, List.getD_eq_getElem?_getD, List.getElem?_reverse hi]
theorem Dih.rev {ps qs : List Pt} (d : Dih ps qs) (n8 : ps.length ≤ 8) : Dih ps qs.reverse := by
  obtain ⟨hl, a, ha, d⟩ := d
  refine ⟨by rw [List.length_reverse, hl], ?_⟩
  have tp : ∀ i, i < ps.length → pt qs.reverse i = pt qs (ps.length - 1 - i) := fun i hi => by rw [rev_at (by omega), hl]
  rcases d with d | d
  · exact ⟨(a + (ps.length - 1)) % ps.length, Nat.mod_lt _ (by omega), .inr fun i hi => by rw [tp i hi, d _ (by omega), (ix3 _ (by omega) a ha i hi).1]⟩
  · exact ⟨(a + 1) % ps.length, Nat.mod_lt _ (by omega), .inl fun i hi => by rw [tp i hi, d _ (by omega), (ix3 _ (by omega) a ha i hi).2]⟩
theorem fF_lt {ps : List Pt} (h : 3 ≤ ps.length) : fF ps < ps.length := by have := argF_le ps (ps.length - 1); unfold fF; omega
theorem Dih.frm {ps qs : List Pt} (d : Dih ps qs) (n3 : 3 ≤ ps.length) (n8 : ps.length ≤ 8) : Dih ps (frm qs qs) :=
  (d.rot n8 (by have := fF_lt (ps := qs) (by rw [d.1]; exact n3); rw [d.1] at this; exact this)).turn n8 _
/-- the corners stand in one order, no two alike -/
structure Tot (ps : List Pt) : Prop where
  tr : ∀ p q r, p ∈ ps → q ∈ ps → r ∈ ps → sfp p q = true → sfp q r = true → sfp p r = true
  ne : ∀ i j, i < ps.length → j < ps.length → i ≠ j → sfp (pt ps i) (pt ps j) = true ∨ sfp (pt ps j) (pt ps i) = true
theorem Dih.mem {ps qs : List Pt} (d : Dih ps qs) (n8 : ps.length ≤ 8) {p : Pt} : p ∈ qs ↔ p ∈ ps := by
  obtain ⟨hl, a, ha, d⟩ := d
  constructor
  · intro h
    obtain ⟨i, hi, rfl⟩ := mem_pt h
    rcases d with d | d
    · rw [d i (by omega)]
      exact pt_mem (Nat.mod_lt _ (by omega))
    · rw [d i (by omega)]
      exact pt_mem (Nat.mod_lt _ (by omega))
  · intro h
    obtain ⟨i, hi, rfl⟩ := mem_pt h
    rcases d with d | d
    · have z := d ((i + (ps.length - a)) % ps.length) (Nat.mod_lt _ (by omega))
      rw [(ix4 _ (by omega) a ha i hi).1] at z
      rw [← z]
      exact pt_mem (by rw [hl]; exact Nat.mod_lt _ (by omega))
    · have z := d ((a + (ps.length - i)) % ps.length) (Nat.mod_lt _ (by omega))
      rw [(ix4 _ (by omega) a ha i hi).2] at z
      rw [← z]
      exact pt_mem (by rw [hl]; exact Nat.mod_lt _ (by omega))
theorem third {n i j : Nat} (h : 3 ≤ n) : ∃ k, k < n ∧ j ≠ k ∧ i ≠ k := by
  by_cases h0 : i = 0 ∨ j = 0
  · by_cases h1 : i = 1 ∨ j = 1
    · exact ⟨2, by omega, by omega, by omega⟩
    · exact ⟨1, by omega, by omega, by omega⟩
  · exact ⟨0, by omega, by omega, by omega⟩
theorem red_mul {k t b : Int} (hk : 0 < k) : red (k * t) (k * b) = red t b := by
  unfold red
  rw [Int.gcd_mul_left, Int.natCast_mul]
  have e : ((k.natAbs : Nat) : Int) = k := by omega
  rw [e, Int.mul_ediv_mul_of_pos _ _ hk, Int.mul_ediv_mul_of_pos _ _ hk]
theorem nf_red {t b : Int} (hb : 0 < b) : nf t b = red t b := if_neg (by omega)
theorem nf_eq {t b t' b' : Int} (hb : 0 < b) (hb' : 0 < b') (e : t * b' = t' * b) : nf t b = nf t' b' := by
  rw [nf_red hb, nf_red hb', ← red_mul (t := t) (b := b) hb', ← red_mul (t := t') (b := b') hb, Int.mul_comm b' t, e, Int.mul_comm t' b, Int.mul_comm b' b]
theorem plus_nf {a c M : Int} (hM : 0 < M) : fPlus (nf a M).1 (nf a M).2 (nf c M).1 (nf c M).2 = nf (a + c) M := by
  obtain ⟨a1, _, a3, _, _⟩ := nf_facts (t := a) (b := M) (by omega)
  obtain ⟨c1, _, c3, _, _⟩ := nf_facts (t := c) (b := M) (by omega)
  unfold fPlus
  refine nf_eq (Int.mul_pos (by omega) (by omega)) hM ?_
  generalize (nf a M).1 = x at *
  generalize (nf a M).2 = y at *
  generalize (nf c M).1 = x' at *
  generalize (nf c M).2 = y' at *
  grind
def sm (h : Nat → Int) : Nat → Int
  | 0 => 0
  | n + 1 => sm h n + h n
theorem sm_congr {h h' : Nat → Int} : ∀ {n : Nat}, (∀ i, i < n → h i = h' i) → sm h n = sm h' n
  | 0, _ => rfl
  | n + 1, e => by
    show sm h n + h n = sm h' n + h' n
    rw [sm_congr (n := n) fun i hi => e i (by omega), e n (by omega)]
theorem sm_neg {h : Nat → Int} : ∀ n : Nat, sm (fun i => -h i) n = -sm h n
  | 0 => rfl
  | n + 1 => by
    show sm (fun i => -h i) n + -h n = -(sm h n + h n)
    rw [sm_neg n]
    omega
theorem sm_up {h : Nat → Int} : ∀ n : Nat, sm (fun i => h (i + 1)) n + h 0 = sm h n + h n
  | 0 => rfl
  | n + 1 => by
    show sm (fun i => h (i + 1)) n + h (n + 1) + h 0 = sm h n + h n + h (n + 1)
    have := sm_up (h := h) n
    omega
theorem sm_shift {e : Nat → Int} {n : Nat} (hn : 0 < n) : ∀ a : Nat, sm (fun i => e ((a + i) % n)) n = sm e n
  | 0 => sm_congr fun i hi => by rw [Nat.zero_add, Nat.mod_eq_of_lt hi]
  | a + 1 => by
    have z := sm_up (h := fun i => e ((a + i) % n)) n
    have e1 : (a + n) % n = (a + 0) % n := by rw [Nat.add_mod_right, Nat.add_zero]
    have e2 : sm (fun i => e ((a + 1 + i) % n)) n = sm (fun i => e ((a + (i + 1)) % n)) n := sm_congr fun i _ => by rw [Nat.add_assoc, Nat.add_comm 1 i]
    have z' : sm (fun i => e ((a + (i + 1)) % n)) n + e ((a + 0) % n) = sm (fun i => e ((a + i) % n)) n + e ((a + n) % n) := z
    rw [e1] at z'
    have ih := sm_shift (e := e) hn a
    rw [e2]
    omega
theorem sm_rev {h : Nat → Int} : ∀ n : Nat, sm (fun i => h (n - 1 - i)) n = sm h n
  | 0 => rfl
  | n + 1 => by
    have z := sm_up (h := fun i => h (n - i)) n
    have e1 : sm (fun i => h (n + 1 - 1 - i)) (n + 1) = sm (fun i => h (n - i)) n + h 0 := by
      show sm (fun i => h (n + 1 - 1 - i)) n + h (n + 1 - 1 - n) = _
      rw [show n + 1 - 1 - n = 0 by omega]
      rfl
    have e2 : sm (fun i => h (n - (i + 1))) n = sm h n := by
      rw [← sm_rev (h := h) n]
      exact sm_congr fun i hi => by congr 1; omega
    have z' : sm (fun i => h (n - (i + 1))) n + h (n - 0) = sm (fun i => h (n - i)) n + h (n - n) := z
    rw [Nat.sub_zero, Nat.sub_self] at z'
    rw [e1]
    show _ = sm h n + h n
    rw [e2] at z'
    omega
theorem tot_sm {c : Nat → Int} {M : Int} (hM : 0 < M) : ∀ n : Nat, tot ((List.range n).map fun i => nf (c i) M) = nf (sm c n) M
  | 0 => by
    show ((0 : Int), (1 : Int)) = nf 0 M
    rw [nf_red hM]
    unfold red
    have g : ((Int.gcd 0 M : Nat) : Int) = M := by rw [Int.gcd_zero_left]; omega
    rw [g, Int.zero_ediv, Int.ediv_self (by omega)]
  | n + 1 => by
    rw [List.range_succ, List.map_append]
    show tot (_ ++ [nf (c n) M]) = _
    rw [tot_snoc, tot_sm hM n, plus_nf hM]
    rfl
def c2 (v v' : Tri) : Int := v.x * v'.y - v.y * v'.x
/-- twice the shape's own area -/
def dbl (s t : Int) (ix : List Nat) : Int := sm (fun i => c2 (Qa s t ix ((i + (ix.length - 1)) % ix.length)) (Qa s t ix i)) ix.length
theorem ix8 : ∀ n, n < 9 → ∀ a, a < n → ∀ i, i < n → (a + (n - (i + (n - 1)) % n)) % n = (((a + 2) % n) + (n - 1 - i)) % n := by decide +kernel
theorem dih_sum {F : Nat → Nat → Int} (sw : ∀ i j, F i j = -F j i) {n a : Nat} (n3 : 3 ≤ n) (n8 : n ≤ 8) (ha : a < n) :
    sm (fun i => F ((a + (i + (n - 1)) % n) % n) ((a + i) % n)) n = sm (fun i => F ((i + (n - 1)) % n) i) n ∧
    sm (fun i => F ((a + (n - (i + (n - 1)) % n)) % n) ((a + (n - i)) % n)) n = -sm (fun i => F ((i + (n - 1)) % n) i) n := by
  constructor
  · rw [← sm_shift (e := fun i => F ((i + (n - 1)) % n) i) (by omega) a]
    exact sm_congr fun i hi => by rw [(ix5 _ (by omega) a ha i hi).1]
  · have r1 := sm_rev (h := fun i => F ((((a + 2) % n + i) % n + (n - 1)) % n) (((a + 2) % n + i) % n)) n
    rw [← sm_shift (e := fun i => F ((i + (n - 1)) % n) i) (by omega) ((a + 2) % n), ← r1, ← sm_neg]
    refine sm_congr fun i hi => ?_
    rw [sw, (ix5 _ (by omega) a ha i hi).2, ix8 _ (by omega) a ha i hi]
theorem ab_mul (a b : Int) : ab (a * b) = ab a * ab b := by
  have e : ∀ n, ab n = (n.natAbs : Nat) := fun n => by unfold ab; split <;> omega
  rw [e, e, e, Int.natAbs_mul, Int.natCast_mul]
theorem ab_of {n : Int} (h : 0 ≤ n) : ab n = n := if_neg (by omega)
theorem dt_last (a b : Tri) : dt a b b = 0 ∧ dt a b a = 0 := by
  unfold dt det3
  constructor <;> grind
theorem ix10 : ∀ n, n < 9 → ∀ x, x < n → ∀ j, j < n → (x + (j + (n - x)) % n) % n = j ∧ (j ≠ x → 1 ≤ (j + (n - x)) % n) := by decide +kernel
theorem ix11 : ∀ n, n < 9 → ∀ x, x < n → ∀ j, j < n → j ≠ (x + (n - 1)) % n → (j + (n - x)) % n < n - 1 := by decide +kernel
theorem dt_ge {s t : Int} {ix : List Nat} (h : Ix ix) (s1 : 1 ≤ s) (t1 : 1 ≤ t) {x j : Nat} (hx : x < ix.length) (hj : j < ix.length) : 0 ≤ dt (Qa s t ix ((x + (ix.length - 1)) % ix.length)) (Qa s t ix x) (Qa s t ix j) ∧ (j ≠ x → j ≠ (x + (ix.length - 1)) % ix.length → 0 < dt (Qa s t ix ((x + (ix.length - 1)) % ix.length)) (Qa s t ix x) (Qa s t ix j)) ∧ (j = x → dt (Qa s t ix ((x + (ix.length - 1)) % ix.length)) (Qa s t ix x) (Qa s t ix j) = 0) := by
  have n8 := h.2.1
  have P : j ≠ x → j ≠ (x + (ix.length - 1)) % ix.length → 0 < dt (Qa s t ix ((x + (ix.length - 1)) % ix.length)) (Qa s t ix x) (Qa s t ix j) := fun a b => by
    obtain ⟨e, o1⟩ := ix10 _ (by omega) x hx j hj
    have z := D_cyc (s := s) (t := t) h s1 t1 hx (o1 a) (ix11 _ (by omega) x hx j hj b)
    rw [e] at z
    exact z
  refine ⟨?_, P, fun e => by rw [e]; exact (dt_last _ _).1⟩
  by_cases a : j = x
  · rw [a, (dt_last _ _).1]
    exact Int.le_refl _
  · by_cases b : j = (x + (ix.length - 1)) % ix.length
    · rw [b, (dt_last _ _).2]
      exact Int.le_refl _
    · have := P a b
      omega
def vsm (q : Nat → Tri) (n : Nat) : Tri := ⟨sm (fun i => (q i).x) n, sm (fun i => (q i).y) n, sm (fun i => (q i).z) n⟩
theorem sm_pos {h : Nat → Int} : ∀ {n : Nat}, (∀ i, i < n → 0 ≤ h i) → 0 ≤ sm h n ∧ ∀ i, i < n → 0 < h i → 0 < sm h n
  | 0, _ => ⟨Int.le_refl _, fun i hi => absurd hi (by omega)⟩
  | n + 1, e => by
    obtain ⟨a, b⟩ := sm_pos (n := n) fun i hi => e i (by omega)
    have z := e n (by omega)
    refine ⟨by show 0 ≤ sm h n + h n; omega, fun i hi hp => ?_⟩
    show 0 < sm h n + h n
    by_cases c : i = n
    · rw [c] at hp
      omega
    · have := b i (by omega) hp
      omega
/-- twice a shape's area, by the places' own numbers -/
def c2i (s t : Int) (i j : Nat) : Int := c2 (plc s t i) (plc s t j)
/-- the path's part of the sum -/
def pth (s t : Int) : List Nat → Int
  | a :: b :: r => c2i s t a b + pth s t (b :: r)
  | _ => 0
theorem SameB.fresh {L : Addr} {H H3 H' : Hp} (s0 : Same H H3) (h : H L = none) (s : SameB L H3 H') : Same H H' := fun b o hb => s b o (ne_of_none hb h) (s0 b o hb)
def tri (ix : List Nat) (a b c : Nat) : List Nat := [ix.getD a 0, ix.getD b 0, ix.getD c 0]
/-- a corner of a polygon, by three whole numbers -/
def Cn (v : Tri) : Prop := Bd 44 v.x ∧ Bd 44 v.y ∧ Bd 24 v.z ∧ 1 ≤ v.z
/-- the corners' crosses over one bottom -/
def xc (C : Nat → Int) (c : Nat → Tri) (i j : Nat) : Int := C i * C j * ((c i).x * (c j).y - (c i).y * (c j).x)
theorem xc_sw (C : Nat → Int) (c : Nat → Tri) (i j : Nat) : xc C c i j = -xc C c j i := by
  unfold xc
  grind
def Pof (c : Tri) (p : Pt) : Prop := p.x * c.z = c.x * p.w ∧ p.y * c.z = c.y * p.w ∧ p.z = 0 ∧ 1 ≤ p.w
theorem nf_xc {C : Nat → Int} {c : Nat → Tri} {W : Int} {i j : Nat} {p o : Pt} (W0 : 0 < W) (hi : C i * (c i).z = W) (hj : C j * (c j).z = W) (hp : Pof (c i) p) (ho : Pof (c j) o) : nf (cr2 2 p o) (p.w * o.w) = nf (xc C c i j) (W * W) := by
  obtain ⟨p1, p2, _, p4⟩ := hp
  obtain ⟨o1, o2, _, o4⟩ := ho
  refine nf_eq (Int.mul_pos (by omega) (by omega)) (Int.mul_pos W0 W0) ?_
  show (p.x * o.y - p.y * o.x) * (W * W) = xc C c i j * (p.w * o.w)
  have e : W * W = C i * C j * ((c i).z * (c j).z) := by
    rw [show W * W = (C i * (c i).z) * (C j * (c j).z) by rw [hi, hj]]
    grind
  rw [e]
  have e2 : (p.x * o.y - p.y * o.x) * (C i * C j * ((c i).z * (c j).z)) = C i * C j * ((p.x * (c i).z) * (o.y * (c j).z) - (p.y * (c i).z) * (o.x * (c j).z)) := by grind
  rw [e2, p1, p2, o1, o2]
  unfold xc
  grind
theorem fss_xc {C : Nat → Int} {c : Nat → Tri} {W : Int} {ps qs : List Pt} (W0 : 0 < W) (n3 : 3 ≤ ps.length) (n8 : ps.length ≤ 8) (hC : ∀ i, i < ps.length → C i * (c i).z = W) (hp : ∀ i, i < ps.length → Pof (c i) (pt ps i)) (d : Dih ps qs) :
    ∃ σ : Int, (σ = 1 ∨ σ = -1) ∧ tot (fss 2 qs) = nf (σ * sm (fun i => xc C c ((i + (ps.length - 1)) % ps.length) i) ps.length) (W * W) := by
  obtain ⟨hl, a, ha, d⟩ := d
  have md : ∀ i, i % ps.length < ps.length := fun i => Nat.mod_lt _ (by omega)
  have Mp := Int.mul_pos W0 W0
  obtain ⟨D1, D2⟩ := dih_sum (F := xc C c) (xc_sw C c) n3 n8 ha
  unfold fss
  rw [hl]
  rcases d with d | d
  · have e : (List.range ps.length).map (fsw 2 qs) = (List.range ps.length).map fun i => nf (xc C c ((a + (i + (ps.length - 1)) % ps.length) % ps.length) ((a + i) % ps.length)) (W * W) := by
      refine List.map_congr_left fun i hi => ?_
      have hi := List.mem_range.mp hi
      unfold fsw
      rw [hl, d _ (md _), d i hi, nf_xc W0 (hC _ (md _)) (hC _ (md _)) (hp _ (md _)) (hp _ (md _))]
    refine ⟨1, .inl rfl, ?_⟩
    rw [e, tot_sm Mp, D1, Int.one_mul]
  · have e : (List.range ps.length).map (fsw 2 qs) = (List.range ps.length).map fun i => nf (xc C c ((a + (ps.length - (i + (ps.length - 1)) % ps.length)) % ps.length) ((a + (ps.length - i)) % ps.length)) (W * W) := by
      refine List.map_congr_left fun i hi => ?_
      have hi := List.mem_range.mp hi
      unfold fsw
      rw [hl, d _ (md _), d i hi, nf_xc W0 (hC _ (md _)) (hC _ (md _)) (hp _ (md _)) (hp _ (md _))]
    refine ⟨-1, .inr rfl, ?_⟩
    rw [e, tot_sm Mp, D2, Int.neg_mul, Int.one_mul]
theorem siz_xc {C : Nat → Int} {c : Nat → Tri} {W : Int} {ps qs : List Pt} (W0 : 0 < W) (n3 : 3 ≤ ps.length) (n8 : ps.length ≤ 8) (hC : ∀ i, i < ps.length → C i * (c i).z = W) (hp : ∀ i, i < ps.length → Pof (c i) (pt ps i)) (d : Dih ps qs) :
    nf (ab (tot (fss 2 qs)).1) ((tot (fss 2 qs)).2 * 2 * 1) = nf (ab (sm (fun i => xc C c ((i + (ps.length - 1)) % ps.length) i) ps.length)) (2 * (W * W)) := by
  obtain ⟨σ, hσ, e⟩ := fss_xc W0 n3 n8 hC hp d
  have Mp := Int.mul_pos W0 W0
  generalize sm (fun i => xc C c ((i + (ps.length - 1)) % ps.length) i) ps.length = S at *
  obtain ⟨a1, _, a3, _, _⟩ := nf_facts (t := σ * S) (b := W * W) (by omega)
  rw [← e] at a1 a3
  generalize tot (fss 2 qs) = TB at *
  refine nf_eq (by omega) (by omega) ?_
  have z : ab TB.1 * (W * W) = ab S * TB.2 := by
    have y := congrArg ab a3
    rw [ab_mul TB.1 (W * W), ab_mul (σ * S) TB.2, ab_mul σ S, ab_of (show 0 ≤ W * W by omega), ab_of (show 0 ≤ TB.2 by omega)] at y
    have o : ab σ = 1 := by rcases hσ with rfl | rfl <;> rfl
    rw [o, Int.one_mul] at y
    exact y
  generalize ab TB.1 = x at *
  generalize ab S = y at *
  generalize W * W = R at *
  grind
/-- the law's own triangles -/
def tfan (c : Nat → Tri) (n : Nat) : Int × Int := tot ((List.range (n - 2)).map fun i => nf (dt (c 0) (c (i + 1)) (c (i + 2))) (2 * (c 0).z * (c (i + 1)).z * (c (i + 2)).z))
theorem tri_xc {C : Nat → Int} {c : Nat → Tri} {W : Int} {i j k : Nat} (W0 : 0 < W) (hi : C i * (c i).z = W) (hj : C j * (c j).z = W) (hk : C k * (c k).z = W) (zi : 1 ≤ (c i).z) (zj : 1 ≤ (c j).z) (zk : 1 ≤ (c k).z) :
    nf (dt (c i) (c j) (c k)) (2 * (c i).z * (c j).z * (c k).z) = nf (xc C c i j + xc C c j k + xc C c k i) (2 * (W * W)) := by
  have Mp := Int.mul_pos W0 W0
  refine nf_eq (Int.mul_pos (Int.mul_pos (by omega) (by omega)) (by omega)) (by omega) ?_
  have e1 : xc C c i j * (c k).z * ((c i).z * (c j).z) = W * W * (((c i).x * (c j).y - (c i).y * (c j).x) * (c k).z) := by
    unfold xc
    rw [show W * W = (C i * (c i).z) * (C j * (c j).z) by rw [hi, hj]]
    grind
  have e2 : xc C c j k * (c i).z * ((c j).z * (c k).z) = W * W * (((c j).x * (c k).y - (c j).y * (c k).x) * (c i).z) := by
    unfold xc
    rw [show W * W = (C j * (c j).z) * (C k * (c k).z) by rw [hj, hk]]
    grind
  have e3 : xc C c k i * (c j).z * ((c k).z * (c i).z) = W * W * (((c k).x * (c i).y - (c k).y * (c i).x) * (c j).z) := by
    unfold xc
    rw [show W * W = (C k * (c k).z) * (C i * (c i).z) by rw [hk, hi]]
    grind
  have d : dt (c i) (c j) (c k) = ((c i).x * (c j).y - (c i).y * (c j).x) * (c k).z + ((c j).x * (c k).y - (c j).y * (c k).x) * (c i).z + ((c k).x * (c i).y - (c k).y * (c i).x) * (c j).z := by
    unfold dt det3
    grind
  have f : (xc C c i j + xc C c j k + xc C c k i) * (2 * (c i).z * (c j).z * (c k).z) = 2 * (xc C c i j * (c k).z * ((c i).z * (c j).z) + xc C c j k * (c i).z * ((c j).z * (c k).z) + xc C c k i * (c j).z * ((c k).z * (c i).z)) := by grind
  rw [f, e1, e2, e3, d]
  grind
theorem fan_cyc {F : Nat → Nat → Int} (sw : ∀ i j, F i j = -F j i) : ∀ n, sm (fun i => F 0 (i + 1) + F (i + 1) (i + 2) + F (i + 2) 0) n = sm (fun i => F i (i + 1)) (n + 1) + F (n + 1) 0
  | 0 => by
    have := sw 0 1
    show (0 : Int) = 0 + F 0 1 + F 1 0
    omega
  | n + 1 => by
    have e := fan_cyc sw n
    have := sw (n + 1) 0
    show sm (fun i => F 0 (i + 1) + F (i + 1) (i + 2) + F (i + 2) 0) n + (F 0 (n + 1) + F (n + 1) (n + 2) + F (n + 2) 0) = sm (fun i => F i (i + 1)) (n + 1) + F (n + 1) (n + 2) + F (n + 2) 0
    rw [e]
    omega
theorem cyc_path {F : Nat → Nat → Int} {n : Nat} (n1 : 1 ≤ n) : sm (fun i => F ((i + (n - 1)) % n) i) n = sm (fun i => F i (i + 1)) (n - 1) + F (n - 1) 0 := by
  have u := sm_up (h := fun i => F ((i + (n - 1)) % n) i) (n - 1)
  have e0 : (0 + (n - 1)) % n = n - 1 := by rw [Nat.zero_add]; exact Nat.mod_eq_of_lt (by omega)
  have c : sm (fun i => F ((i + 1 + (n - 1)) % n) (i + 1)) (n - 1) = sm (fun i => F i (i + 1)) (n - 1) := sm_congr fun i hi => by
    rw [show i + 1 + (n - 1) = i + n by omega, Nat.add_mod_right, Nat.mod_eq_of_lt (by omega)]
  have s : sm (fun i => F ((i + (n - 1)) % n) i) n = sm (fun i => F ((i + (n - 1)) % n) i) (n - 1) + F ((n - 1 + (n - 1)) % n) (n - 1) := by
    obtain ⟨m, rfl⟩ : ∃ m, n = m + 1 := ⟨n - 1, by omega⟩
    rfl
  rw [e0, c] at u
  rw [s]
  omega
theorem fan_xc {C : Nat → Int} {c : Nat → Tri} {W : Int} {n : Nat} (W0 : 0 < W) (n3 : 3 ≤ n) (hC : ∀ i, i < n → C i * (c i).z = W) (hz : ∀ i, i < n → 1 ≤ (c i).z) : tfan c n = nf (sm (fun i => xc C c ((i + (n - 1)) % n) i) n) (2 * (W * W)) := by
  have Mp := Int.mul_pos W0 W0
  unfold tfan
  have e : ((List.range (n - 2)).map fun i => nf (dt (c 0) (c (i + 1)) (c (i + 2))) (2 * (c 0).z * (c (i + 1)).z * (c (i + 2)).z)) = (List.range (n - 2)).map fun i => nf (xc C c 0 (i + 1) + xc C c (i + 1) (i + 2) + xc C c (i + 2) 0) (2 * (W * W)) := by
    refine List.map_congr_left fun i hi => ?_
    have hi := List.mem_range.mp hi
    exact tri_xc W0 (hC 0 (by omega)) (hC _ (by omega)) (hC _ (by omega)) (hz 0 (by omega)) (hz _ (by omega)) (hz _ (by omega))
  rw [e, tot_sm (by omega), fan_cyc (xc_sw C c), cyc_path (by omega), show n - 2 + 1 = n - 1 by omega]
/-- a common bottom of the first n corners -/
def pz (c : Nat → Tri) : Nat → Int
  | 0 => 1
  | n + 1 => pz c n * (c n).z
theorem pz_dvd {c : Nat → Tri} : ∀ {n i : Nat}, i < n → (c i).z ∣ pz c n
  | n + 1, i, h => by
    by_cases e : i = n
    · subst e
      exact Int.dvd_mul_left _ _
    · exact Int.dvd_trans (pz_dvd (show i < n by omega)) (Int.dvd_mul_right _ _)
theorem pz_pos {c : Nat → Tri} : ∀ {n : Nat}, (∀ i, i < n → 1 ≤ (c i).z) → 0 < pz c n
  | 0, _ => by show (0 : Int) < 1; decide
  | n + 1, h => Int.mul_pos (pz_pos fun i hi => h i (by omega)) (by have := h n (by omega); omega)
def PlcT (H : Hp) (r : Addr) (c : Tri) : Prop := ∃ a b, H r = some (.tup [.ref a, .ref b]) ∧ At2 H a (nf c.x c.z) ∧ At2 H b (nf c.y c.z)
theorem PlcT.keep {H H' : Hp} {r : Addr} {c : Tri} (h : PlcT H r c) (s : SameT H H') : PlcT H' r c := by
  obtain ⟨a, b, h1, h2, h3⟩ := h
  exact ⟨a, b, s _ _ h1, s _ _ h2, s _ _ h3⟩
def spFlatS : Sp := fun vs H Q _ => ∃ (r : Addr) (c : Tri), vs = [.ref r] ∧ PlcT H r c ∧ Cn c ∧ ∀ (g : Addr) (H' : Hp) (p : Pt), Same H H' → Is4 H' g p → Pof c p → p.lq → Q (.ref g) H'
def spLaid : Sp := fun vs H Q _ => ∃ (h : Addr) (rs : List Addr) (c : Nat → Tri), vs = [.ref h] ∧ H h = some (.tup (rs.map V.ref)) ∧ 3 ≤ rs.length ∧ rs.length ≤ 8 ∧ (∀ i, i < rs.length → PlcT H (ad rs i) (c i) ∧ Cn (c i)) ∧ ∀ (g : Addr) (H' : Hp) (rq : List Addr) (ps : List Pt), Same H H' → H' g = some (.tup ((frm ps rq).map V.ref)) → Sps H' rq ps → ps.length = rs.length → (∀ i, i < ps.length → Pof (c i) (pt ps i) ∧ (pt ps i).lq) → Q (.ref g) H'
def spArea : Sp := fun vs H Q _ => ∃ (h : Addr) (rs : List Addr) (c : Nat → Tri), vs = [.ref h] ∧ H h = some (.tup (rs.map V.ref)) ∧ 3 ≤ rs.length ∧ rs.length ≤ 8 ∧ (∀ i, i < rs.length → PlcT H (ad rs i) (c i) ∧ Cn (c i)) ∧ (∀ i, i < rs.length → dt (c ((i + (rs.length - 1)) % rs.length)) (c i) (c ((i + 1) % rs.length)) ≠ 0) ∧
  ∀ (g : Addr) (H' : Hp), Same H H' → (∀ (W : Int) (C : Nat → Int), 0 < W → (∀ i, i < rs.length → C i * (c i).z = W) → At2 H' g (nf (ab (sm (fun i => xc C c ((i + (rs.length - 1)) % rs.length) i) rs.length)) (2 * (W * W)))) → Q (.ref g) H'
theorem pof_of {c : Tri} {a b c' d : Int} {p : Pt} {g : Int} (z1 : 1 ≤ c.z) (ha : a * c.z = c.x * b) (hc : c' * c.z = c.y * d) (g0 : 0 < g) (hx : g * p.x = a * d) (hy : g * p.y = c' * b) (hz : p.z = 0) (hw : g * p.w = b * d) (w1 : 1 ≤ p.w) : Pof c p := by
  refine ⟨?_, ?_, hz, w1⟩
  · refine Int.eq_of_mul_eq_mul_left (show g ≠ 0 by omega) ?_
    rw [← Int.mul_assoc, hx, show g * (c.x * p.w) = c.x * (g * p.w) by grind, hw, show a * d * c.z = a * c.z * d by grind, ha]
    grind
  · refine Int.eq_of_mul_eq_mul_left (show g ≠ 0 by omega) ?_
    rw [← Int.mul_assoc, hy, show g * (c.y * p.w) = c.y * (g * p.w) by grind, hw, show c' * b * c.z = c' * c.z * b by grind, hc]
    grind
theorem ok_flats (T : Tx K mg t1 t2) (F : At K mg "flat_spot" s_flat_spot ["place"] []) (d_made_spot : DefOk P w K mg base CX0 3 "made_spot" ["x", "y", "z", "w"] [] spMSpot) : DefOk P w K mg base CX0 4 "flat_spot" ["place"] [] spFlatS := by
  refine F.ok sc_flat_spot (fun vs H Q E h => ?_) (fun f cdv A outer s H vs Q E hr h => ?_)
  · obtain ⟨r, c, rfl, _⟩ := h
    rfl
  obtain ⟨r, c, rfl, ⟨a, b, h0, h1, h2⟩, hc, q⟩ := h
  have S := sc_flat_spot
  refine ⟨_, (pss_cons (ps_set (i := 1) S.nd rfl (Or.inl rfl) (pe_ix ix_tup (pv 0) pe_int (fun _ _ => rfl)))
    (pss_cons (ps_set (i := 2) S.nd rfl (Or.inl rfl) (pe_ix ix_tup (pv 0) pe_int (fun _ _ => rfl)))
    (pss_one (ps_ret (pe_callD d_made_spot (hr.mono (by decide)) rfl pass0 (pa_cons (pe_op op_mulB (pe_ix ix_tup (pv 1) pe_int (fun _ _ => rfl)) (pe_ix ix_tup (pv 2) pe_int (fun _ _ => rfl))) (pa_cons (pe_op op_mulB (pe_ix ix_tup (pv 2) pe_int (fun _ _ => rfl)) (pe_ix ix_tup (pv 1) pe_int (fun _ _ => rfl))) (pa_cons pe_int (pa_cons (pe_op op_mulB (pe_ix ix_tup (pv 1) pe_int (fun _ _ => rfl)) (pe_ix ix_tup (pv 2) pe_int (fun _ _ => rfl))) pa_nil se_bin) se_con) se_bin) se_bin)))))), ?_⟩
  obtain ⟨bx, by', bz, z1⟩ := hc
  have k0 : SqT K H r [.ref a, .ref b] := SqT.of h0
  have ka : SqT K H a [.int (nf c.x c.z).1, .int (nf c.x c.z).2] := SqT.of h1
  have kb : SqT K H b [.int (nf c.y c.z).1, .int (nf c.y c.z).2] := SqT.of h2
  obtain ⟨a1, _, a3, a4, a5⟩ := nf_facts (t := c.x) (b := c.z) (by omega)
  obtain ⟨c1, _, c3, c4, c5⟩ := nf_facts (t := c.y) (b := c.z) (by omega)
  have d1 : Bd 44 (nf c.x c.z).1 := bd_le a4 bx
  have d2 : Bd 24 (nf c.x c.z).2 := bd_le a5 bz
  have d3 : Bd 44 (nf c.y c.z).1 := bd_le c4 by'
  have d4 : Bd 24 (nf c.y c.z).2 := bd_le c5 bz
  generalize (nf c.x c.z).1 = x at *
  generalize (nf c.x c.z).2 = x' at *
  generalize (nf c.y c.z).1 = y at *
  generalize (nf c.y c.z).2 = y' at *
  have f1 := d1.fit
  have f2 := d2.fit
  have f3 := d3.fit
  have f4 := d4.fit
  have m1 : Bd 70 (x * y') := Bd.mono (n := 44 + 24) (Bd.mul d1 d4)
  have m2 : Bd 70 (y * x') := Bd.mono (n := 44 + 24) (Bd.mul d3 d2)
  have m3 : Bd 70 (x' * y') := Bd.mono (n := 24 + 24) (Bd.mul d2 d4)
  have m0 : Bd 70 (0 : Int) := by unfold Bd; decide
  have wp : 0 < x' * y' := Int.mul_pos (by omega) (by omega)
  walk_at "rf"
  walk_at "gf"
  refine ⟨_, _, _, _, rfl, Bd.mono m1, Bd.mono m2, Bd.mono m0, Bd.mono m3, wp, fun g H1 s1 e1 => ?_⟩
  have gp : 0 < gl [x * y', y * x', 0, x' * y'] := gl_pos (n := x' * y') (by simp) (by omega)
  have q1 : gl [x * y', y * x', 0, x' * y'] * (x * y' / gl [x * y', y * x', 0, x' * y']) = x * y' := Int.mul_ediv_cancel' (gl_dvd (by simp))
  have q2 : gl [x * y', y * x', 0, x' * y'] * (y * x' / gl [x * y', y * x', 0, x' * y']) = y * x' := Int.mul_ediv_cancel' (gl_dvd (by simp))
  have q4 : gl [x * y', y * x', 0, x' * y'] * (x' * y' / gl [x * y', y * x', 0, x' * y']) = x' * y' := Int.mul_ediv_cancel' (gl_dvd (by simp))
  have w1 : 1 ≤ x' * y' / gl [x * y', y * x', 0, x' * y'] := by
    rcases Int.lt_or_le 0 (x' * y' / gl [x * y', y * x', 0, x' * y']) with h | h
    · exact h
    · have := Int.mul_nonpos_of_nonneg_of_nonpos (show 0 ≤ gl [x * y', y * x', 0, x' * y'] by omega) h
      omega
  refine q g H1 ⟨x * y' / gl [x * y', y * x', 0, x' * y'], y * x' / gl [x * y', y * x', 0, x' * y'], 0 / gl [x * y', y * x', 0, x' * y'], x' * y' / gl [x * y', y * x', 0, x' * y']⟩ s1 ⟨e1, Bd.mono (bd_div m1), Bd.mono (bd_div m2), Bd.mono (bd_div m0), Bd.mono (bd_div m3)⟩ (pof_of z1 a3 c3 gp q1 q2 (Int.zero_ediv _) q4 w1) ⟨bd_div m1, bd_div m2, bd_div m0, bd_div m3, w1⟩
theorem ok_laid (T : Tx K mg t1 t2) (F : At K mg "laid_flat" s_laid_flat ["polygon"] []) (d_flat_spot : DefOk P w K mg base CX0 4 "flat_spot" ["place"] [] spFlatS) (d_formed : DefOk P w K mg base CX0 2 "formed" ["corners"] [] spFormed) : DefOk P w K mg base CX0 5 "laid_flat" ["polygon"] [] spLaid := by
  refine F.ok sc_laid_flat (fun vs H Q E h => ?_) (fun f cdv A outer s H vs Q E hr h => ?_)
  · obtain ⟨h, rs, c, rfl, _⟩ := h
    rfl
  obtain ⟨h, rs, c, rfl, hh, n3, n8, hc, q⟩ := h
  have S := sc_laid_flat
  refine ⟨_, (pss_one (ps_ret (pe_callD d_formed (hr.mono (by decide)) rfl pass0 (pa_cons (pe_comp rfl (N' := ["place"]) (ix := []) ⟨rfl, rfl, by decide +kernel, by decide +kernel, rfl, by decide +kernel, (show ∀ y : Str × NameKind, y ∈ _ → y.2 = NameKind.free → (defScope s_laid_flat).names.lookup y.1 = some .cell ∨ (defScope s_laid_flat).names.lookup y.1 = some .free from by decide +kernel), .nil⟩ (pi_tup (pv 0)) (fun _ _ _ _ => pg_name (i := 0) (show (["place"] : List Str).Nodup from by decide +kernel) rfl (Or.inl rfl)) (fun _ _ _ _ => pts_nil) (fun _ _ _ _ => (pe_callD d_flat_spot (hr.mono (by decide)) rfl pass0 (pa_cons (pv 0) pa_nil se_nam)))) pa_nil se_cmp)))), ?_⟩
  have kh : SqT K H h (rs.map V.ref) := SqT.of hh
  have lm : (rs.map V.ref).length = rs.length := List.length_map _
  walk_at "rf"
  refine ⟨⟨_, kh⟩, fun acc hacc => ?_⟩
  refine compTq (zs := rs.map V.ref) (fun i y H' => ∃ (r : Addr) (p : Pt), y = .ref r ∧ Is4 H' r p ∧ Pof (c i) p ∧ p.lq) (fun i y J J' ⟨r, p, h1, h2, h3⟩ st => ⟨r, p, h1, ⟨st _ _ h2.1, h2.2⟩, h3⟩) (by omega) hacc kh ?_ ?_
  · intro j z J R hj sJ hR
    have hjl : j < rs.length := by have := (List.getElem?_eq_some_iff.mp hj).1; omega
    rw [ad_get hjl] at hj
    cases hj
    walk_at "rf"
    exact ⟨_, c j, rfl, (hc j hjl).1.keep sJ.t, (hc j hjl).2, fun g J2 p s2 h2 h3 h4 => hR _ _ s2 ⟨g, p, rfl, h2, h3, h4⟩⟩
  intro ys H1 s1 e1 l1 p1
  have ex : ∀ n, n ≤ ys.length → ∃ (rq : List Addr) (ps : List Pt), ys.take n = rq.map V.ref ∧ Sps H1 rq ps ∧ ps.length = n ∧ ∀ i, i < n → Pof (c i) (pt ps i) ∧ (pt ps i).lq := by
    intro n
    induction n with
    | zero => intro _; exact ⟨[], [], rfl, .nil, rfl, fun i hi => absurd hi (by omega)⟩
    | succ n ih =>
      intro hn
      obtain ⟨rq, ps, h1, h2, h3, h4⟩ := ih (by omega)
      obtain ⟨r, p, k1, k2, k3, k4⟩ := p1 n ys[n] (List.getElem?_eq_getElem (by omega))
      refine ⟨rq ++ [r], ps ++ [p], ?_, h2.app (.cons k2 .nil), by rw [List.length_append, h3]; rfl, fun i hi => ?_⟩
      · rw [List.take_add_one, h1, List.getElem?_eq_getElem (by omega), k1, List.map_append]
        rfl
      · unfold pt
        by_cases c' : i < n
        · rw [List.getD_eq_getElem?_getD, List.getElem?_append_left (by omega), ← List.getD_eq_getElem?_getD]
          exact h4 i c'
        · have e : i = n := by omega
          subst e
          rw [List.getD_eq_getElem?_getD, List.getElem?_append_right (by omega), h3, Nat.sub_self]
          exact ⟨k3, k4⟩
  obtain ⟨rq, ps, h1, h2, h3, h4⟩ := ex ys.length (Nat.le_refl _)
  rw [List.take_length] at h1
  subst h1
  have lp : ps.length = rs.length := by rw [h3, l1, lm]
  refine ⟨acc, rq, ps, rfl, ⟨e1, h2⟩, by omega, by omega, fun g H2 s2 e2 => ?_⟩
  exact q g H2 rq ps (s1.trans s2) e2 (h2.keep s2.t) lp (fun i hi => h4 i (by omega))
theorem minor_pof {c c' c'' : Tri} {p o u : Pt} (hp : Pof c p) (ho : Pof c' o) (hu : Pof c'' u) : minor 2 p o u * (c.z * c'.z * c''.z) = dt c c' c'' * (p.w * o.w * u.w) ∧ minor 0 p o u = 0 ∧ minor 1 p o u = 0 ∧ minor 3 p o u = 0 := by
  obtain ⟨p1, p2, p3, _⟩ := hp
  obtain ⟨o1, o2, o3, _⟩ := ho
  obtain ⟨u1, u2, u3, _⟩ := hu
  refine ⟨?_, ?_, ?_, ?_⟩
  · show det3 p.x p.y p.w o.x o.y o.w u.x u.y u.w * (c.z * c'.z * c''.z) = det3 c.x c.y c.z c'.x c'.y c'.z c''.x c''.y c''.z * (p.w * o.w * u.w)
    have e : det3 p.x p.y p.w o.x o.y o.w u.x u.y u.w * (c.z * c'.z * c''.z) = det3 (p.x * c.z) (p.y * c.z) (p.w * c.z) (o.x * c'.z) (o.y * c'.z) (o.w * c'.z) (u.x * c''.z) (u.y * c''.z) (u.w * c''.z) := by
      unfold det3
      grind
    rw [e, p1, p2, o1, o2, u1, u2]
    unfold det3
    grind
  · show det3 p.y p.z p.w o.y o.z o.w u.y u.z u.w = 0
    rw [p3, o3, u3]
    unfold det3
    grind
  · show det3 p.x p.z p.w o.x o.z o.w u.x u.z u.w = 0
    rw [p3, o3, u3]
    unfold det3
    grind
  · show det3 p.x p.y p.z o.x o.y o.z u.x u.y u.z = 0
    rw [p3, o3, u3]
    unfold det3
    grind
theorem pln_flat {D : Int} (hD : D ≠ 0) {x y z v : Int} (e : pln [0, -0, D, 0] = [x, y, z, v]) : x = 0 ∧ y = 0 ∧ ab z = 1 := by
  obtain ⟨x', y', z', v', e1, _, σ, hσ, x1, x2, x3, x4⟩ := pln_four 0 (-0) D 0
  have z0 : [x, y, z, v] = [x', y', z', v'] := e.symm.trans e1
  cases z0
  have gp : 0 < gl [0, -0, D, 0] := gl_pos (n := D) (by simp) hD
  have g1 : gl [0, -0, D, 0] ∣ D := gl_dvd (by simp)
  have g2 : D ∣ gl [0, -0, D, 0] := dvd_gl fun n hn => by
    simp only [List.mem_cons, List.not_mem_nil, or_false, Int.neg_zero] at hn
    rcases hn with rfl | rfl | rfl | rfl
    · exact Int.dvd_zero _
    · exact Int.dvd_zero _
    · exact Int.dvd_refl _
    · exact Int.dvd_zero _
  have gn : (gl [0, -0, D, 0]).natAbs = D.natAbs := Nat.dvd_antisymm (Int.natAbs_dvd_natAbs.mpr g1) (Int.natAbs_dvd_natAbs.mpr g2)
  generalize gl [0, -0, D, 0] = g at *
  have c0 : ∀ {n : Int}, g * n = σ * 0 → n = 0 := fun h => by
    rw [Int.mul_zero] at h
    exact (Int.mul_eq_zero.mp h).resolve_left (by omega)
  refine ⟨c0 x1, c0 (by rw [x2]; rfl), ?_⟩
  have e : D = g ∨ D = -g := by omega
  have z1 : z = 1 ∨ z = -1 := by
    have k : g * z = g * 1 ∨ g * z = g * (-1) := by
      rw [x3]
      rcases hσ with rfl | rfl <;> rcases e with rfl | rfl
      · exact .inl (by omega)
      · exact .inr (by omega)
      · exact .inr (by omega)
      · exact .inl (by omega)
    rcases k with k | k
    · exact .inl (Int.eq_of_mul_eq_mul_left (by omega) k)
    · exact .inr (Int.eq_of_mul_eq_mul_left (by omega) k)
  rcases z1 with rfl | rfl <;> rfl
theorem ix13 : ∀ n, n < 9 → 3 ≤ n → ∀ a, a < n → ((a + 0) % n = ((a + 1) % n + (n - 1)) % n ∧ (a + 2) % n = ((a + 1) % n + 1) % n) ∧ ((a + (n - 2)) % n = ((a + (n - 1)) % n + (n - 1)) % n ∧ (a + (n - 0)) % n = ((a + (n - 1)) % n + 1) % n) := by decide +kernel
theorem first3 {c : Nat → Tri} {ps qs : List Pt} (n3 : 3 ≤ ps.length) (n8 : ps.length ≤ 8) (hp : ∀ i, i < ps.length → Pof (c i) (pt ps i)) (hz : ∀ i, i < ps.length → 1 ≤ (c i).z) (hr : ∀ i, i < ps.length → dt (c ((i + (ps.length - 1)) % ps.length)) (c i) (c ((i + 1) % ps.length)) ≠ 0) (d : Dih ps qs) : minor 2 (pt qs 0) (pt qs 1) (pt qs 2) ≠ 0 ∧ minor 0 (pt qs 0) (pt qs 1) (pt qs 2) = 0 ∧ minor 1 (pt qs 0) (pt qs 1) (pt qs 2) = 0 ∧ minor 3 (pt qs 0) (pt qs 1) (pt qs 2) = 0 := by
  obtain ⟨hl, a, ha, d⟩ := d
  have md : ∀ i, i % ps.length < ps.length := fun i => Nat.mod_lt _ (by omega)
  have K : ∀ i j k, i < ps.length → j < ps.length → k < ps.length → dt (c i) (c j) (c k) ≠ 0 → minor 2 (pt ps i) (pt ps j) (pt ps k) ≠ 0 ∧ minor 0 (pt ps i) (pt ps j) (pt ps k) = 0 ∧ minor 1 (pt ps i) (pt ps j) (pt ps k) = 0 ∧ minor 3 (pt ps i) (pt ps j) (pt ps k) = 0 := fun i j k hi hj hk hd => by
    obtain ⟨m1, m2⟩ := minor_pof (hp i hi) (hp j hj) (hp k hk)
    refine ⟨fun e => ?_, m2⟩
    rw [e, Int.zero_mul] at m1
    have w := Int.mul_pos (Int.mul_pos (show 0 < (pt ps i).w by have := (hp i hi).2.2.2; omega) (show 0 < (pt ps j).w by have := (hp j hj).2.2.2; omega)) (show 0 < (pt ps k).w by have := (hp k hk).2.2.2; omega)
    exact Int.mul_ne_zero hd (by omega) m1.symm
  obtain ⟨⟨i1, i2⟩, i3, i4⟩ := ix13 _ (by omega) n3 a ha
  rcases d with d | d
  · rw [d 0 (by omega), d 1 (by omega), d 2 (by omega)]
    refine K _ _ _ (md _) (md _) (md _) ?_
    rw [i1, i2]
    exact hr _ (md _)
  · rw [d 0 (by omega), d 1 (by omega), d 2 (by omega)]
    refine K _ _ _ (md _) (md _) (md _) ?_
    rw [i3, i4]
    have z := hr ((a + (ps.length - 1)) % ps.length) (md _)
    intro e
    refine z ?_
    have sw : ∀ a b c : Tri, dt a b c = -dt c b a := fun a b c => by
      unfold dt det3
      grind
    rw [sw, e]
    rfl
theorem ok_area (T : Tx K mg t1 t2) (F : At K mg "area_of" s_area_of ["polygon"] []) (d_laid_flat : DefOk P w K mg base CX0 5 "laid_flat" ["polygon"] [] spLaid) (d_size_of : DefOk P w K mg base CX0 7 "size_of" ["board"] [] spSize) : DefOk P w K mg base CX0 8 "area_of" ["polygon"] [] spArea := by
  refine F.ok sc_area_of (fun vs H Q E h => ?_) (fun f cdv A outer s H vs Q E hr h => ?_)
  · obtain ⟨h, rs, c, rfl, _⟩ := h
    rfl
  obtain ⟨h, rs, c, rfl, hh, n3, n8, hc, hr', q⟩ := h
  have S := sc_area_of
  refine ⟨_, (pss_one (ps_ret (pe_callD d_size_of (hr.mono (by decide)) rfl pass0 (pa_cons (pe_callD d_laid_flat (hr.mono (by decide)) rfl pass0 (pa_cons (pv 0) pa_nil se_nam)) pa_nil se_cal)))), ?_⟩
  walk_at "rf"
  refine ⟨h, rs, c, rfl, hh, n3, n8, hc, fun g1 H1 rq ps s1 e1 hsp lp hps => ?_⟩
  have dd := (Dih.refl (ps := ps) (by omega)).frm (by omega) (by omega)
  have fl := dd.1
  have F3 := first3 (c := c) (ps := ps) (by omega) (by omega) (fun i hi => (hps i hi).1) (fun i hi => (hc i (by omega)).2.2.2.2) (fun i hi => by rw [lp]; exact hr' i (by omega)) dd
  refine ⟨g1, frm ps rq, frm ps ps, rfl, e1, hsp.frm, by omega, by omega, fun i hi => ?_, fun na => F3.1 na.2.2, fun g2 H2 k x y z v s2 ep ax e2 => ?_⟩
  · have m := (dd.mem (by omega)).mp (pt_mem hi)
    obtain ⟨j, hj, e⟩ := mem_pt m
    rw [← e]
    exact (hps j hj).2
  have er : rgh (pt (frm ps ps) 0) (pt (frm ps ps) 1) (pt (frm ps ps) 2) = [0, -0, minor 2 (pt (frm ps ps) 0) (pt (frm ps ps) 1) (pt (frm ps ps) 2), 0] := by
    unfold rgh
    rw [F3.2.1, F3.2.2.1, F3.2.2.2]
  rw [er] at ep
  obtain ⟨x0, y0, z1⟩ := pln_flat F3.1 ep
  have k2 : k = 2 := by unfold AxOk at ax; omega
  subst k2
  have eav : axv 2 x y z = z := rfl
  rw [eav, z1] at e2
  refine q g2 H2 (s1.trans s2) fun W C W0 hC => ?_
  have z := siz_xc (C := C) (c := c) (W := W) (ps := ps) W0 (by omega) (by omega) (fun i hi => hC i (by omega)) (fun i hi => (hps i hi).1) dd
  rw [z, lp] at e2
  exact e2.1
def PBox (H : Hp) (L : Addr) : Prop := ∃ r m : Int, H L = some (.lst [.int r, .int m]) ∧ 0 ≤ r ∧ 0 ≤ m ∧ m < 2147483647
theorem SameB.tp {L : Addr} {H H' : Hp} (s : SameB L H H') (h : PBox H L) : SameT H H' := fun b xs hb => by
  by_cases e : b = L
  · obtain ⟨r, m, hm, _⟩ := h
    rw [e, hm] at hb
    cases hb
  · exact s b _ e hb
def spTake : Sp := fun vs H Q _ => ∃ (L : Addr) (n : Int), vs = [.ref L, .int n] ∧ PBox H L ∧ 0 < n ∧ n < 2 ^ 60 ∧ ∀ (H' : Hp) (d : Int), SameB L H H' → PBox H' L → 0 ≤ d → d < n → Q (.int d) H'
def spPool : Sp := fun vs H Q _ => ∃ (a : Addr) (ns : List Int) (k : Int), vs = [.ref a, .int k] ∧ H a = some (.lst (ns.map V.int)) ∧ 0 ≤ k ∧ k < 64 ∧ ∀ (L : Addr) (H' : Hp), H L = none → Same H H' → PBox H' L → Q (.ref L) H'
def spCells (K : PySem.W.Frag) : Sp := fun vs H Q _ => ∃ (a : Addr) (ns : List Int) (m : Nat), vs = [.ref a, .int (m : Int)] ∧ SqL K H a (ns.map V.int) ∧ ns.length ≤ 63 ∧ 1 ≤ m ∧ m ≤ 8 ∧ ∀ (L : Addr) (H' : Hp) (ms : List Int), Same H H' → H' L = some (.lst (ms.map V.int)) → ms.length ≤ 8 → Q (.ref L) H'
def spDiv2 : Sp := fun vs H Q _ => ∃ x y : Int, vs = [.int x, .int y] ∧ 0 < y ∧ Q (.int (Int.gcd x y : Nat)) H
def spLow2 : Sp := fun vs H Q _ => ∃ x y : Int, vs = [.int x, .int y] ∧ 0 < y ∧ Fit y ∧ ∀ (g : Addr) (H' : Hp), Same H H' → At2 H' g (nf x y) → Q (.ref g) H'
def spPlus2 : Sp := fun vs H Q _ => ∃ (r e : Addr) (f g : Int × Int), vs = [.ref r, .ref e] ∧ At2 H r f ∧ At2 H e g ∧ Bd 1700 f.1 ∧ Bd 1700 f.2 ∧ Bd 200 g.1 ∧ Bd 200 g.2 ∧ 1 ≤ f.2 ∧ 1 ≤ g.2 ∧ ∀ (a : Addr) (H' : Hp), Same H H' → At2 H' a (fPlus f.1 f.2 g.1 g.2) → Q (.ref a) H'
def PlA (H : Hp) (r : Addr) (v : Tri) : Prop := H r = some (.tup [.int v.x, .int v.y, .int v.z])
def TB (n : Nat) (v : Tri) : Prop := Bd n v.x ∧ Bd n v.y ∧ Bd n v.z
def spHt2 : Sp := fun vs H Q _ => ∃ (r e : Addr) (p q : Tri), vs = [.ref r, .ref e] ∧ PlA H r p ∧ PlA H e q ∧ TB 100 p ∧ TB 44 q ∧ Q (.int (p.x * q.x + p.y * q.y + p.z * q.z)) H
def spThr2 : Sp := fun vs H Q _ => ∃ (r e : Addr) (p q : Tri), vs = [.ref r, .ref e] ∧ PlA H r p ∧ PlA H e q ∧ TB 44 p ∧ TB 44 q ∧ ∀ (g : Addr) (H' : Hp), Same H H' → PlA H' g ⟨p.y * q.z - q.y * p.z, q.x * p.z - p.x * q.z, p.x * q.y - q.x * p.y⟩ → Q (.ref g) H'
def spLeft2 : Sp := fun vs H Q _ => ∃ (r e u : Addr) (p q v : Tri), vs = [.ref r, .ref e, .ref u] ∧ PlA H r p ∧ PlA H e q ∧ PlA H u v ∧ TB 44 p ∧ TB 44 q ∧ TB 44 v ∧ ∀ H' : Hp, Same H H' → Q (.int (dt p q v)) H'
theorem gcd_mod (a b : Int) : Int.gcd b (a % b) = Int.gcd a b := by
  have h1 : ((Int.gcd b (a % b) : Nat) : Int) ∣ (Int.gcd a b : Nat) := Int.dvd_coe_gcd (by
    have z : ((Int.gcd b (a % b) : Nat) : Int) ∣ b * (a / b) + a % b := Int.dvd_add (Int.dvd_trans (Int.gcd_dvd_left ..) (Int.dvd_mul_right _ _)) (Int.gcd_dvd_right ..)
    rw [Int.mul_ediv_add_emod] at z
    exact z) (Int.gcd_dvd_left ..)
  have h2 : ((Int.gcd a b : Nat) : Int) ∣ (Int.gcd b (a % b) : Nat) := Int.dvd_coe_gcd (Int.gcd_dvd_right ..) (by
    rw [Int.emod_def]
    exact Int.dvd_sub (Int.gcd_dvd_left ..) (Int.dvd_trans (Int.gcd_dvd_right ..) (Int.dvd_mul_right _ _)))
  exact Nat.dvd_antisymm (Int.natCast_dvd_natCast.mp h1) (Int.natCast_dvd_natCast.mp h2)
theorem Cn.tb {v : Tri} (h : Cn v) : TB 44 v := ⟨h.1, h.2.1, Bd.mono h.2.2.1⟩
theorem ok_take (T : Tx K mg t1 t2) (F : At K mg "_law_take" s__law_take ["pool", "many"] []) : DefOk P w K mg base CX0 1 "_law_take" ["pool", "many"] [] spTake := by
  refine F.ok sc__law_take (fun vs H Q E h => ?_) (fun f cdv A outer s H vs Q E hr h => ?_)
  · obtain ⟨L, n, rfl, _⟩ := h
    rfl
  obtain ⟨L, n, rfl, ⟨r, m, hL, r0, m0, m1⟩, n0, n60, q⟩ := h
  have S := sc__law_take
  refine ⟨_, (pss_cons (ps_if (pt_cmpR op_gt (pe_ix ix_list (pv 0) pe_int (fun _ _ => rfl)) pe_int (nomark _))
    (pss_cons (ps_set (i := 2) S.nd rfl (Or.inl rfl) (pe_op op_mod (pe_ix ix_list (pv 0) pe_int (fun _ _ => rfl)) (pv 1)))
    (pss_cons (ps_asg (pe_op op_fdivB (pe_ix ix_list (pv 0) pe_int (fun _ _ => rfl)) (pv 1)) (pg_sub (pv 0) pe_int set_list))
    (pss_one (ps_ret (pv 2)))))
    pss_nil)
    (pss_cons (ps_asg (pe_op op_mod (pe_op op_add (pe_op op_mulB (pe_ix ix_list (pv 0) pe_int (fun _ _ => rfl)) pe_int) pe_int) pe_int) (pg_sub (pv 0) pe_int set_list))
    (pss_one (ps_ret (pe_op op_mod (pe_op op_fdivB (pe_op op_mod (pe_op op_mulB (pe_op op_mod (pe_op op_mulB (pe_ix ix_list (pv 0) pe_int (fun _ _ => rfl)) (pe_ix ix_list (pv 0) pe_int (fun _ _ => rfl))) pe_int) pe_int) pe_int) pe_int) (pv 1)))))), ?_⟩
  have k1 : SqL K H L [.int r, .int m] := SqL.of hL
  have fn : Fit n := Bd.fit (n := 61) (by unfold Bd; omega)
  walk_at "rf"
  refine ixL k1 (i := 0) rfl ?_
  walk_at "rf"
  by_cases c : 0 < r
  · rw [if_pos c]
    have a1 := Int.emod_nonneg r (show n ≠ 0 by omega)
    have a2 := Int.emod_lt_of_pos r n0
    have a3 : 0 ≤ r / n := Int.ediv_nonneg (by omega) (by omega)
    walk_at "gf"
    unfold gSub
    walk_at "rf"
    exact ⟨L, _, 0, 0, rfl, rfl, hL, rfl, q _ _ SameB.set ⟨r / n, m, upd_same, a3, m0, m1⟩ a1 a2⟩
  · rw [if_neg c]
    have b1 := Int.emod_nonneg (m * 48271 + 12820163) (show (2147483647 : Int) ≠ 0 by decide)
    have b2 := Int.emod_lt_of_pos (m * 48271 + 12820163) (show (0 : Int) < 2147483647 by decide)
    have fm : Fit m := Bd.fit (n := 32) (by unfold Bd; omega)
    refine ixL k1 (i := 1) rfl ⟨_, rfl, fm, Bd.fit (n := 17) (by unfold Bd; decide), by decide, ?_⟩
    generalize (m * 48271 + 12820163) % 2147483647 = m2 at b1 b2 ⊢
    have fm2 : Fit m2 := Bd.fit (n := 32) (by unfold Bd; omega)
    have k2 : SqL K (upd H L (.lst [.int r, .int m2])) L [.int r, .int m2] := SqL.of upd_same
    have c1 := Int.emod_nonneg (m2 * m2) (show (2147483629 : Int) ≠ 0 by decide)
    have c2 := Int.emod_lt_of_pos (m2 * m2) (show (0 : Int) < 2147483629 by decide)
    have fm3 : Fit (m2 * m2 % 2147483629) := Bd.fit (n := 32) (by unfold Bd; omega)
    unfold gSub
    walk_at "rf"
    refine ⟨L, _, 1, 1, rfl, rfl, hL, rfl, ?_⟩
    refine ixL k2 (i := 1) rfl (ixL k2 (i := 1) rfl ⟨_, rfl, _, rfl, fm2, fm2, by decide, fm3, Bd.fit (n := 17) (by unfold Bd; decide), by decide, by decide, Bd.fit (n := 4) (by unfold Bd; decide), n0, ?_⟩)
    exact q _ _ SameB.set ⟨r, m2, upd_same, r0, b1, b2⟩ (Int.emod_nonneg _ (by omega)) (Int.emod_lt_of_pos _ n0)
theorem ok_pool (T : Tx K mg t1 t2) (F : At K mg "_law_pool" s__law_pool ["cells", "k"] []) : DefOk P w K mg base CX0 1 "_law_pool" ["cells", "k"] [] spPool := by
  refine F.ok sc__law_pool (fun vs H Q E h => ?_) (fun f cdv A outer s H vs Q E hr h => ?_)
  · obtain ⟨a, ns, k, rfl, _⟩ := h
    rfl
  obtain ⟨a, ns, k, rfl, ha, k0, k64, q⟩ := h
  have S := sc__law_pool
  refine ⟨_, (pss_cons (ps_set (i := 2) S.nd rfl (Or.inl rfl) pe_int)
    (pss_cons (ps_if (pt_cmpR op_lt (pv 1) (pe_callB call_len_seq rfl T.m_len PySem.boot_len (pa_cons (pv 0) pa_nil se_nam)) (nomark _))
    (pss_one (ps_set (i := 2) S.nd rfl (Or.inl rfl) (pe_ix ix_list (pv 0) (pv 1) (fun _ _ => rfl))))
    pss_nil)
    (pss_cons (ps_set (i := 3) S.nd rfl (Or.inl rfl) pe_int)
    (pss_cons (ps_if (PW.pt (pw_or (pt_cmpR op_lt (pv 2) pe_int (nomark _)) (pw_or1 (pt_cmpR op_ge (pv 2) (pe_op op_pow pe_int pe_int) (nomark _)))))
    (pss_one (ps_set (i := 3) S.nd rfl (Or.inl rfl) (pe_callB call_abs rfl T.m_abs boot_abs (pa_cons (pv 2) pa_nil se_nam))))
    pss_nil)
    (pss_one (ps_ret (pe_lst (pa_cons (pv 3) (pa_cons (pe_op op_mod (pe_op op_add (pe_op op_mulB (pe_op op_mod (pv 2) pe_int) pe_int) (pe_op op_mulB (pe_op op_mulB pe_int (pe_op op_add (pv 1) pe_int)) (pe_op op_add (pv 1) pe_int))) pe_int) pa_nil se_bin) se_nam)))))))), ?_⟩
  have ka : SqL K H a (ns.map V.int) := SqL.of ha
  have lm : (ns.map V.int).length = ns.length := List.length_map _
  walk_at "rf"
  refine ⟨_, .inl ka, ?_⟩
  have leaf : ∀ (c rest : Int), 0 ≤ rest → ((0 : Int) < 2147483629 ∧ Fit (c % 2147483629) ∧ Fit 69621 ∧ Fit 40009 ∧ Fit (k + 1) ∧ Fit (40009 * (k + 1)) ∧ Fit (k + 3) ∧ (0 : Int) < 2147483629 ∧ 2 ≤ sizeLine ∧ ∀ p : Addr, H p = none → Q (.ref p) (upd H p (.lst [.int rest, .int ((c % 2147483629 * 69621 + 40009 * (k + 1) * (k + 3)) % 2147483629)]))) := fun c rest hr => by
    have b1 := Int.emod_nonneg c (show (2147483629 : Int) ≠ 0 by decide)
    have b2 := Int.emod_lt_of_pos c (show (0 : Int) < 2147483629 by decide)
    have c1 := Int.emod_nonneg (c % 2147483629 * 69621 + 40009 * (k + 1) * (k + 3)) (show (2147483629 : Int) ≠ 0 by decide)
    have c2 := Int.emod_lt_of_pos (c % 2147483629 * 69621 + 40009 * (k + 1) * (k + 3)) (show (0 : Int) < 2147483629 by decide)
    exact ⟨by decide, Bd.fit (n := 32) (by unfold Bd; omega), Bd.fit (n := 17) (by unfold Bd; decide), Bd.fit (n := 17) (by unfold Bd; decide), Bd.fit (n := 17) (by unfold Bd; omega), Bd.fit (n := 32) (by unfold Bd; omega), Bd.fit (n := 17) (by unfold Bd; omega), by decide, by decide, fun p hp => q p _ hp (Same.new hp _) ⟨rest, _, upd_same, hr, c1, by omega⟩⟩
  have cp : CPow 10 18 := ⟨by decide, by decide, by decide⟩
  have z10 : ¬ ((10 : Int) ^ Int.toNat 18 ≤ 0) := by decide
  by_cases c : k < ((ns.map V.int).length : Int)
  · rw [if_pos c]
    obtain ⟨j, rfl⟩ := Int.eq_ofNat_of_zero_le k0
    have hj : j < ns.length := by omega
    refine ixL ka (v := .int ns[j]) (atI_nat (by rw [List.getElem?_map, List.getElem?_eq_getElem hj]; rfl)) ⟨_, rfl, ?_⟩
    generalize ns[j] = m
    by_cases c1 : m < 0
    · rw [if_pos c1]
      exact ⟨_, rfl, _, rfl, leaf m _ (by split <;> omega)⟩
    · rw [if_neg c1]
      refine ⟨cp, _, rfl, ?_⟩
      by_cases c2 : (10 : Int) ^ Int.toNat 18 ≤ m
      · rw [if_pos c2]
        exact ⟨_, rfl, _, rfl, leaf m _ (by split <;> omega)⟩
      · rw [if_neg c2]
        exact ⟨_, rfl, leaf m 0 (by decide)⟩
  · rw [if_neg c]
    first | exact ⟨cp, by rw [if_neg z10]; exact leaf 0 0 (by decide)⟩ | (simp only [if_neg z10]; exact ⟨cp, leaf 0 0 (by decide)⟩) | exact leaf 0 0 (by decide) | skip
theorem ok_div2 (T : Tx K mg t1 t2) (F : At K mg "_law_divisor" s__law_divisor ["one", "other"] []) : DefOk P w K mg base CX0 1 "_law_divisor" ["one", "other"] [] spDiv2 := by
  refine F.ok sc__law_divisor (fun vs H Q E h => ?_) (fun f cdv A outer s H vs Q E hr h => ?_)
  · obtain ⟨x, y, rfl, _⟩ := h
    rfl
  obtain ⟨x, y, rfl, y0, q⟩ := h
  have S := sc__law_divisor
  refine ⟨_, (pss_cons (ps_while PassesOwn.never (pt_cmpR op_ne (pv 1) pe_int (nomark _))
    (pss_one (ps_par (i := 0) (j := 1) rfl S.nd rfl rfl (by decide) rfl rfl (pa_cons (pv 1) (pa_cons (pe_op op_mod (pv 0) (pv 1)) pa_nil se_bin) se_nam) rfl)))
    (pss_one (ps_ret (pe_callB call_abs rfl T.m_abs boot_abs (pa_cons (pv 0) pa_nil se_nam))))), ?_⟩
  walk_at "rf"
  refine ⟨fun n σ H3 => H3 = H ∧ ∃ (a b : Int), σ = [some (.int a), some (.int b)] ∧ 0 ≤ b ∧ (b = 0 → 0 < a) ∧ Int.gcd a b = Int.gcd x y ∧ n = b.toNat, ⟨_, rfl, x, y, rfl, by omega, fun h => by omega, rfl, rfl⟩, ?_⟩
  rintro n σ H3 ⟨rfl, a, b, rfl, hb, ha, hg, rfl⟩
  walk_at "rf"
  by_cases c : b = 0
  · subst c
    have a0 := ha rfl
    rw [if_pos rfl, if_neg (by omega)]
    have e : (Int.gcd x y : Int) = a := by
      rw [← hg, Int.gcd_zero_right]
      omega
    rw [← e]
    exact q
  · rw [if_neg c]
    have b1 := Int.emod_nonneg a c
    have b2 := Int.emod_lt_of_pos a (show 0 < b by omega)
    refine ⟨fun σ' H' => σ' = [some (.int b), some (.int (a % b))] ∧ H' = H3, fun σ' H' ⟨h1, h2⟩ => ?_, by omega, rfl, rfl⟩
    have ge := gcd_mod a b
    exact ⟨(a % b).toNat, by omega, h2, b, a % b, h1, b1, fun _ => by omega, ge.trans hg, rfl⟩
theorem ok_low2 (T : Tx K mg t1 t2) (F : At K mg "_law_lowest" s__law_lowest ["top", "bottom"] []) (d__law_divisor : DefOk P w K mg base CX0 1 "_law_divisor" ["one", "other"] [] spDiv2) : DefOk P w K mg base CX0 2 "_law_lowest" ["top", "bottom"] [] spLow2 := by
  refine F.ok sc__law_lowest (fun vs H Q E h => ?_) (fun f cdv A outer s H vs Q E hr h => ?_)
  · obtain ⟨x, y, rfl, _⟩ := h
    rfl
  obtain ⟨x, y, rfl, y0, fy, q⟩ := h
  have S := sc__law_lowest
  refine ⟨_, (pss_cons (ps_set (i := 2) S.nd rfl (Or.inl rfl) (pe_callD d__law_divisor (hr.mono (by decide)) rfl pass0 (pa_cons (pv 0) (pa_cons (pv 1) pa_nil se_nam) se_nam)))
    (pss_one (ps_ret (pe_tup (pa_cons (pe_op op_fdivB (pv 0) (pv 2)) (pa_cons (pe_op op_fdivB (pv 1) (pv 2)) pa_nil se_bin) se_bin))))), ?_⟩
  walk_at "rf"
  refine ⟨x, y, rfl, y0, ?_⟩
  have gp := Int.gcd_pos_of_ne_zero_right x (show y ≠ 0 by omega)
  have gl' : ((Int.gcd x y : Nat) : Int) ≤ y := Int.le_of_dvd y0 (Int.gcd_dvd_right ..)
  have gf : Fit ((Int.gcd x y : Nat) : Int) := Nat.lt_of_le_of_lt (show (((Int.gcd x y : Nat) : Int)).natAbs ≤ y.natAbs by omega) fy
  walk_at "rf"
  refine ⟨by omega, gf, by omega, gf, by decide, fun p hp => ?_⟩
  refine q p _ (Same.new hp _) ?_
  rw [nf_red y0]
  exact upd_same
theorem ok_plus2 (T : Tx K mg t1 t2) (F : At K mg "_law_plus" s__law_plus ["one", "other"] []) (d__law_lowest : DefOk P w K mg base CX0 2 "_law_lowest" ["top", "bottom"] [] spLow2) : DefOk P w K mg base CX0 3 "_law_plus" ["one", "other"] [] spPlus2 := by
  refine F.ok sc__law_plus (fun vs H Q E h => ?_) (fun f cdv A outer s H vs Q E hr h => ?_)
  · obtain ⟨r, e, f, g, rfl, _⟩ := h
    rfl
  obtain ⟨r, e, f, g, rfl, h1, h2, b1, b2, b3, b4, f1, g1, q⟩ := h
  have S := sc__law_plus
  refine ⟨_, (pss_one (ps_ret (pe_callD d__law_lowest (hr.mono (by decide)) rfl pass0 (pa_cons (pe_op op_add (pe_op op_mulB (pe_ix ix_tup (pv 0) pe_int (fun _ _ => rfl)) (pe_ix ix_tup (pv 1) pe_int (fun _ _ => rfl))) (pe_op op_mulB (pe_ix ix_tup (pv 1) pe_int (fun _ _ => rfl)) (pe_ix ix_tup (pv 0) pe_int (fun _ _ => rfl)))) (pa_cons (pe_op op_mulB (pe_ix ix_tup (pv 0) pe_int (fun _ _ => rfl)) (pe_ix ix_tup (pv 1) pe_int (fun _ _ => rfl))) pa_nil se_bin) se_bin)))), ?_⟩
  have k1 : SqT K H r [.int f.1, .int f.2] := SqT.of h1
  have k2 : SqT K H e [.int g.1, .int g.2] := SqT.of h2
  have c1 := b1.fit
  have c2 := b2.fit
  have c3 := b3.fit
  have c4 := b4.fit
  walk_at "rf"
  walk_at "gf"
  exact ⟨_, _, rfl, Int.mul_pos (by omega) (by omega), Bd.fit (n := 1700 + 200) (Bd.mul b2 b4), fun a H' s' h' => q a H' s' h'⟩
theorem ok_ht2 (T : Tx K mg t1 t2) (F : At K mg "_law_height" s__law_height ["line", "corner"] []) : DefOk P w K mg base CX0 1 "_law_height" ["line", "corner"] [] spHt2 := by
  refine F.ok sc__law_height (fun vs H Q E h => ?_) (fun f cdv A outer s H vs Q E hr h => ?_)
  · obtain ⟨r, e, p, q', rfl, _⟩ := h
    rfl
  obtain ⟨r, e, p, q', rfl, h1, h2, bp, bq, q⟩ := h
  have S := sc__law_height
  refine ⟨_, (pss_one (ps_ret (pe_op op_add (pe_op op_add (pe_op op_mulB (pe_ix ix_tup (pv 0) pe_int (fun _ _ => rfl)) (pe_ix ix_tup (pv 1) pe_int (fun _ _ => rfl))) (pe_op op_mulB (pe_ix ix_tup (pv 0) pe_int (fun _ _ => rfl)) (pe_ix ix_tup (pv 1) pe_int (fun _ _ => rfl)))) (pe_op op_mulB (pe_ix ix_tup (pv 0) pe_int (fun _ _ => rfl)) (pe_ix ix_tup (pv 1) pe_int (fun _ _ => rfl)))))), ?_⟩
  have k1 : SqT K H r [.int p.x, .int p.y, .int p.z] := SqT.of h1
  have k2 : SqT K H e [.int q'.x, .int q'.y, .int q'.z] := SqT.of h2
  have c1 := bp.1.fit
  have c2 := bp.2.1.fit
  have c3 := bp.2.2.fit
  have d1 := bq.1.fit
  have d2 := bq.2.1.fit
  have d3 := bq.2.2.fit
  walk_at "rf"
  walk_at "gf"
  exact q
theorem ok_thr2 (T : Tx K mg t1 t2) (F : At K mg "_law_through" s__law_through ["one", "other"] []) : DefOk P w K mg base CX0 1 "_law_through" ["one", "other"] [] spThr2 := by
  refine F.ok sc__law_through (fun vs H Q E h => ?_) (fun f cdv A outer s H vs Q E hr h => ?_)
  · obtain ⟨r, e, p, q', rfl, _⟩ := h
    rfl
  obtain ⟨r, e, p, q', rfl, h1, h2, bp, bq, q⟩ := h
  have S := sc__law_through
  refine ⟨_, (pss_one (ps_ret (pe_tup (pa_cons (pe_op op_sub (pe_op op_mulB (pe_ix ix_tup (pv 0) pe_int (fun _ _ => rfl)) (pe_ix ix_tup (pv 1) pe_int (fun _ _ => rfl))) (pe_op op_mulB (pe_ix ix_tup (pv 1) pe_int (fun _ _ => rfl)) (pe_ix ix_tup (pv 0) pe_int (fun _ _ => rfl)))) (pa_cons (pe_op op_sub (pe_op op_mulB (pe_ix ix_tup (pv 1) pe_int (fun _ _ => rfl)) (pe_ix ix_tup (pv 0) pe_int (fun _ _ => rfl))) (pe_op op_mulB (pe_ix ix_tup (pv 0) pe_int (fun _ _ => rfl)) (pe_ix ix_tup (pv 1) pe_int (fun _ _ => rfl)))) (pa_cons (pe_op op_sub (pe_op op_mulB (pe_ix ix_tup (pv 0) pe_int (fun _ _ => rfl)) (pe_ix ix_tup (pv 1) pe_int (fun _ _ => rfl))) (pe_op op_mulB (pe_ix ix_tup (pv 1) pe_int (fun _ _ => rfl)) (pe_ix ix_tup (pv 0) pe_int (fun _ _ => rfl)))) pa_nil se_bin) se_bin) se_bin)))), ?_⟩
  have k1 : SqT K H r [.int p.x, .int p.y, .int p.z] := SqT.of h1
  have k2 : SqT K H e [.int q'.x, .int q'.y, .int q'.z] := SqT.of h2
  have c1 := bp.1.fit
  have c2 := bp.2.1.fit
  have c3 := bp.2.2.fit
  have d1 := bq.1.fit
  have d2 := bq.2.1.fit
  have d3 := bq.2.2.fit
  walk_at "rf"
  walk_at "gf"
  intro g hg
  exact q g _ (Same.new hg _) upd_same
theorem ok_left2 (T : Tx K mg t1 t2) (F : At K mg "_law_left" s__law_left ["one", "other", "third"] []) (d__law_through : DefOk P w K mg base CX0 1 "_law_through" ["one", "other"] [] spThr2) (d__law_height : DefOk P w K mg base CX0 1 "_law_height" ["line", "corner"] [] spHt2) : DefOk P w K mg base CX0 2 "_law_left" ["one", "other", "third"] [] spLeft2 := by
  refine F.ok sc__law_left (fun vs H Q E h => ?_) (fun f cdv A outer s H vs Q E hr h => ?_)
  · obtain ⟨r, e, u, p, q', v, rfl, _⟩ := h
    rfl
  obtain ⟨r, e, u, p, q', v, rfl, h1, h2, h3, bp, bq, bv, q⟩ := h
  have S := sc__law_left
  refine ⟨_, (pss_one (ps_ret (pe_callD d__law_height (hr.mono (by decide)) rfl pass0 (pa_cons (pe_callD d__law_through (hr.mono (by decide)) rfl pass0 (pa_cons (pv 0) (pa_cons (pv 1) pa_nil se_nam) se_nam)) (pa_cons (pv 2) pa_nil se_nam) se_cal)))), ?_⟩
  walk_at "rf"
  refine ⟨r, e, p, q', rfl, h1, h2, bp, bq, fun g H1 s1 e1 => ?_⟩
  try walk_at "rf"
  have m : ∀ {a b c d : Int}, Bd 44 a → Bd 44 b → Bd 44 c → Bd 44 d → Bd 100 (a * b - c * d) := fun h1 h2 h3 h4 => Bd.mono (n := 89) (Bd.sub (Bd.mul (n := 44) (m := 44) h1 h2) (Bd.mul (n := 44) (m := 44) h3 h4))
  refine ⟨g, u, _, v, rfl, e1, s1 _ _ h3, ⟨m bp.2.1 bq.2.2 bq.2.1 bp.2.2, m bq.1 bp.2.2 bp.1 bq.2.2, m bp.1 bq.2.1 bq.1 bp.2.1⟩, bv, ?_⟩
  have e : (p.y * q'.z - q'.y * p.z) * v.x + (q'.x * p.z - p.x * q'.z) * v.y + (p.x * q'.y - q'.x * p.y) * v.z = dt p q' v := by
    unfold dt det3
    grind
  dsimp only
  rw [e]
  exact q _ s1
/-- the corners stand round -/
def Rnd2 (c : Nat → Tri) (n : Nat) : Prop := ∀ k, k < n → ∀ m, m < n → m ≠ k → (m + 1) % n ≠ k → 0 < dt (c ((k + (n - 1)) % n)) (c k) (c m)
structure Crs (H : Hp) (rs : List Addr) (c : Nat → Tri) : Prop where
  at_ : ∀ i, i < rs.length → PlA H (ad rs i) (c i)
  cn : ∀ i, i < rs.length → Cn (c i)
theorem Crs.keep {H H' : Hp} {rs : List Addr} {c : Nat → Tri} (h : Crs H rs c) (s : SameT H H') : Crs H' rs c := ⟨fun i hi => s _ _ (h.at_ i hi), h.cn⟩
def spRound : Sp := fun vs H Q _ => ∃ (l : Addr) (rs : List Addr) (c : Nat → Tri), vs = [.ref l] ∧ H l = some (.lst (rs.map V.ref)) ∧ Crs H rs c ∧ rs.length ≤ 8 ∧ (∀ H' : Hp, Same H H' → 3 ≤ rs.length → Rnd2 c rs.length → Q (.bl true) H') ∧ ∀ H' : Hp, Same H H' → Q (.bl false) H'
def spCorner : Sp := fun vs H Q _ => ∃ L : Addr, vs = [.ref L] ∧ PBox H L ∧ ∀ (g : Addr) (H' : Hp) (v : Tri), SameB L H H' → PBox H' L → H g = none → PlA H' g v → Cn v → Bd 41 v.x → Bd 41 v.y → Bd 21 v.z → Q (.ref g) H'
theorem ad_app {fs : List Addr} {g : Addr} {i : Nat} : (i < fs.length → ad (fs ++ [g]) i = ad fs i) ∧ ad (fs ++ [g]) fs.length = g := by
  unfold ad
  constructor
  · intro h
    rw [List.getD_eq_getElem?_getD, List.getD_eq_getElem?_getD, List.getElem?_append_left h]
  · rw [List.getD_eq_getElem?_getD, List.getElem?_append_right (Nat.le_refl _), Nat.sub_self]
    rfl
theorem atI_prev {xs : List V} {n j : Nat} {v : V} (hn : xs.length = n) (hj : j < n) (h : xs[(j + (n - 1)) % n]? = some v) : atI xs ((j : Int) - 1) = some v := by
  by_cases c : j = 0
  · subst c
    have e : (0 + (n - 1)) % n = n - 1 := by rw [Nat.zero_add]; exact Nat.mod_eq_of_lt (by omega)
    rw [e] at h
    exact atI_neg1 (n := n - 1) (by omega) h
  · have e : (j + (n - 1)) % n = j - 1 := by
      rw [show j + (n - 1) = j - 1 + n by omega, Nat.add_mod_right]
      exact Nat.mod_eq_of_lt (by omega)
    rw [e] at h
    rw [show ((j : Int) - 1) = ((j - 1 : Nat) : Int) by omega]
    exact atI_nat h
theorem ok_round (T : Tx K mg t1 t2) (F : At K mg "_law_is_round" s__law_is_round ["corners"] []) (d__law_left : DefOk P w K mg base CX0 2 "_law_left" ["one", "other", "third"] [] spLeft2) : DefOk P w K mg base CX0 3 "_law_is_round" ["corners"] [] spRound := by
  refine F.ok sc__law_is_round (fun vs H Q E h => ?_) (fun f cdv A outer s H vs Q E hr h => ?_)
  · obtain ⟨l, rs, c, rfl, _⟩ := h
    rfl
  obtain ⟨l, rs, c, rfl, hl, hc, n8, q1, q2⟩ := h
  have S := sc__law_is_round
  refine ⟨_, (pss_cons (ps_for PassesOwn.never rfl (pi_range1 rfl T.m_range (pa_cons (pe_callB call_len_seq rfl T.m_len PySem.boot_len (pa_cons (pv 0) pa_nil se_nam)) pa_nil se_cal)) (pg_name (i := 1) S.nd rfl (Or.inl rfl))
    (pss_one (ps_for PassesOwn.never rfl (pi_range1 rfl T.m_range (pa_cons (pe_callB call_len_seq rfl T.m_len PySem.boot_len (pa_cons (pv 0) pa_nil se_nam)) pa_nil se_cal)) (pg_name (i := 2) S.nd rfl (Or.inl rfl))
    (pss_one (ps_if (PW.pt (pw_and (pt_cmpR op_ne (pv 2) (pv 1) (nomark _)) (pw_and (pt_cmpR op_ne (pe_op op_mod (pe_op op_add (pv 2) pe_int) (pe_callB call_len_seq rfl T.m_len PySem.boot_len (pa_cons (pv 0) pa_nil se_nam))) (pv 1) (nomark _)) (pw_and1 (pt_cmpR op_le (pe_callD d__law_left (hr.mono (by decide)) rfl pass0 (pa_cons (pe_ix ix_list (pv 0) (pe_op op_sub (pv 1) pe_int) (fun _ _ => rfl)) (pa_cons (pe_ix ix_list (pv 0) (pv 1) (fun _ _ => rfl)) (pa_cons (pe_ix ix_list (pv 0) (pv 2) (fun _ _ => rfl)) pa_nil se_sub) se_sub) se_sub)) pe_int (nomark _))))))
    (pss_one (ps_ret pe_bl))
    pss_nil)))))
    (pss_one (ps_ret (pe_cmpR op_gt (pe_callB call_len_seq rfl T.m_len PySem.boot_len (pa_cons (pv 0) pa_nil se_nam)) pe_int (nomark _))))), ?_⟩
  have kl : SqL K H l (rs.map V.ref) := SqL.of hl
  have lm : (rs.map V.ref).length = rs.length := List.length_map _
  walk_at "rf"
  refine ⟨_, .inl kl, by omega, by omega, for_range (lo := 0) (n := _) (fun i σ J => Same H J ∧ (∃ o1 o2 : Option V, σ = [some (.ref l), o1, o2]) ∧ ∀ k, k < i → ∀ m, m < rs.length → m ≠ k → (m + 1) % rs.length ≠ k → 0 < dt (c ((k + (rs.length - 1)) % rs.length)) (c k) (c m)) ⟨Same.refl _, ⟨none, none, rfl⟩, fun k hk => absurd hk (by omega)⟩ ?_ ?_⟩
  · rintro i σ J hi ⟨sJ, ⟨o1, o2, rfl⟩, hd⟩
    have hil : i < rs.length := by omega
    walk_at "rf"
    refine ⟨_, .inl (sJ.seq kl), by omega, by omega, for_range (lo := 0) (n := _) (fun j σ J2 => Same H J2 ∧ (∃ o2 : Option V, σ = [some (.ref l), some (.int (0 + (i : Int))), o2]) ∧ ∀ m, m < j → m ≠ i → (m + 1) % rs.length ≠ i → 0 < dt (c ((i + (rs.length - 1)) % rs.length)) (c i) (c m)) ⟨sJ, ⟨_, rfl⟩, fun m hm => absurd hm (by omega)⟩ ?_ ?_⟩
    · rintro j σ J2 hj ⟨s2, ⟨o2', rfl⟩, hd2⟩
      have hjl : j < rs.length := by omega
      have kJ := s2.seq kl
      have hpv : (i + (rs.length - 1)) % rs.length < rs.length := Nat.mod_lt _ (by omega)
      have done : (j ≠ i → (j + 1) % rs.length ≠ i → 0 < dt (c ((i + (rs.length - 1)) % rs.length)) (c i) (c j)) → ∀ m, m < j + 1 → m ≠ i → (m + 1) % rs.length ≠ i → 0 < dt (c ((i + (rs.length - 1)) % rs.length)) (c i) (c m) := fun h m hm => by
        by_cases e : m = j
        · subst e
          exact h
        · exact hd2 m (by omega)
      walk_at "rf"
      by_cases c1 : 0 + (j : Int) = 0 + (i : Int)
      · rw [if_pos c1]
        exact ⟨s2, ⟨_, rfl⟩, done fun h => absurd (by omega) h⟩
      · rw [if_neg c1]
        refine ⟨_, .inl kJ, by omega, ?_⟩
        have em : (0 + (j : Int) + 1) % ((rs.map V.ref).length : Int) = (((j + 1) % rs.length : Nat) : Int) := by
          rw [lm, Int.zero_add]
          norm_cast
        rw [em]
        by_cases c2 : (((j + 1) % rs.length : Nat) : Int) = 0 + (i : Int)
        · rw [if_pos c2]
          exact ⟨s2, ⟨_, rfl⟩, done fun _ h => absurd (by omega) h⟩
        · rw [if_neg c2]
          refine ixL kJ (v := .ref (ad rs ((i + (rs.length - 1)) % rs.length))) (by rw [Int.zero_add]; exact atI_prev lm hil (ad_get hpv)) (ixL kJ (v := .ref (ad rs i)) (by rw [Int.zero_add]; exact atI_nat (ad_get hil)) (ixL kJ (v := .ref (ad rs j)) (by rw [Int.zero_add]; exact atI_nat (ad_get hjl)) ?_))
          refine ⟨_, _, _, _, _, _, rfl, s2 _ _ (hc.at_ _ hpv), s2 _ _ (hc.at_ _ hil), s2 _ _ (hc.at_ _ hjl), (hc.cn _ hpv).tb, (hc.cn _ hil).tb, (hc.cn _ hjl).tb, fun J3 s3 => ⟨_, rfl, ?_⟩⟩
          by_cases c3 : dt (c ((i + (rs.length - 1)) % rs.length)) (c i) (c j) ≤ 0
          · rw [if_pos c3]
            exact q2 _ (s2.trans s3)
          · rw [if_neg c3]
            exact ⟨s2.trans s3, ⟨_, rfl⟩, done fun _ _ => by omega⟩
    · rintro σ J2 ⟨s2, ⟨o2', rfl⟩, hd2⟩
      refine ⟨s2, ⟨_, _, rfl⟩, fun k hk m hm => ?_⟩
      by_cases e : k = i
      · subst e
        exact hd2 m (by omega)
      · exact hd k (by omega) m hm
  · rintro σ J ⟨sJ, ⟨o1, o2, rfl⟩, hd⟩
    walk_at "rf"
    refine ⟨_, .inl (sJ.seq kl), ?_⟩
    by_cases c3 : 2 < ((rs.map V.ref).length : Int)
    · rw [decide_eq_true c3]
      exact q1 _ sJ (by omega) fun k hk => hd k (by omega)
    · rw [decide_eq_false c3]
      exact q2 _ sJ
theorem ok_corner (T : Tx K mg t1 t2) (F : At K mg "_law_some_corner" s__law_some_corner ["pool"] []) (d__law_take : DefOk P w K mg base CX0 1 "_law_take" ["pool", "many"] [] spTake) : DefOk P w K mg base CX0 2 "_law_some_corner" ["pool"] [] spCorner := by
  refine F.ok sc__law_some_corner (fun vs H Q E h => ?_) (fun f cdv A outer s H vs Q E hr h => ?_)
  · obtain ⟨L, rfl, _⟩ := h
    rfl
  obtain ⟨L, rfl, hL, q⟩ := h
  have S := sc__law_some_corner
  refine ⟨_, (pss_cons (ps_set (i := 1) S.nd rfl (Or.inl rfl) (pe_lst pa_nil))
    (pss_cons (ps_for PassesOwn.never rfl (pi_range1 rfl T.m_range (pa_cons pe_int pa_nil se_con)) (pg_name (i := 2) S.nd rfl (Or.inl rfl))
    (pss_cons (ps_set (i := 3) S.nd rfl (Or.inl rfl) (pe_ix ix_list (pe_lst (pa_cons pe_int (pa_cons pe_int (pa_cons pe_int (pa_cons (pe_op op_pow pe_int pe_int) pa_nil se_bin) se_con) se_con) se_con)) (pe_callD d__law_take (hr.mono (by decide)) rfl pass0 (pa_cons (pv 0) (pa_cons pe_int pa_nil se_con) se_nam)) (fun _ _ => rfl)))
    (pss_cons (ps_set (i := 4) S.nd rfl (Or.inl rfl) (pe_op op_sub (pe_callD d__law_take (hr.mono (by decide)) rfl pass0 (pa_cons (pv 0) (pa_cons (pe_op op_add (pe_op op_mulB pe_int (pv 3)) pe_int) pa_nil se_bin) se_nam)) (pv 3)))
    (pss_cons (ps_set (i := 5) S.nd rfl (Or.inl rfl) (pe_ix ix_list (pe_lst (pa_cons pe_int (pa_cons pe_int (pa_cons pe_int pa_nil se_con) se_con) se_con)) (pe_callD d__law_take (hr.mono (by decide)) rfl pass0 (pa_cons (pv 0) (pa_cons pe_int pa_nil se_con) se_nam)) (fun _ _ => rfl)))
    (pss_one (ps_expr (pe_bm PySem.F.plainAttrs_list PySem.F.slot_list_append PySem.F.type_list_append mt_append (pv 1) (pa_cons (pe_tup (pa_cons (pv 4) (pa_cons (pe_op op_add pe_int (pe_callD d__law_take (hr.mono (by decide)) rfl pass0 (pa_cons (pv 0) (pa_cons (pv 5) pa_nil se_nam) se_nam))) pa_nil se_bin) se_nam)) pa_nil se_tup))))))))
    (pss_one (ps_ret (pe_tup (pa_cons (pe_op op_mulB (pe_ix ix_tup (pe_ix ix_list (pv 1) pe_int (fun _ _ => rfl)) pe_int (fun _ _ => rfl)) (pe_ix ix_tup (pe_ix ix_list (pv 1) pe_int (fun _ _ => rfl)) pe_int (fun _ _ => rfl))) (pa_cons (pe_op op_mulB (pe_ix ix_tup (pe_ix ix_list (pv 1) pe_int (fun _ _ => rfl)) pe_int (fun _ _ => rfl)) (pe_ix ix_tup (pe_ix ix_list (pv 1) pe_int (fun _ _ => rfl)) pe_int (fun _ _ => rfl))) (pa_cons (pe_op op_mulB (pe_ix ix_tup (pe_ix ix_list (pv 1) pe_int (fun _ _ => rfl)) pe_int (fun _ _ => rfl)) (pe_ix ix_tup (pe_ix ix_list (pv 1) pe_int (fun _ _ => rfl)) pe_int (fun _ _ => rfl))) pa_nil se_bin) se_bin) se_bin)))))), ?_⟩
  obtain ⟨r0, m0, hL0, hL1⟩ := id hL
  walk_at "rf"
  refine ⟨by decide, fun fg hfg => ?_⟩
  have s0 := Same.new hfg (.lst [])
  have e0 : upd H fg (.lst []) fg = some (.lst (([] : List Addr).map V.ref)) := upd_same
  have nL : fg ≠ L := Ne.symm (ne_of_none hL0 hfg)
  generalize upd H fg (.lst []) = H0 at s0 e0 ⊢
  refine ⟨by decide, by decide, for_range (lo := 0) (n := 2) (fun i σ J => SameB L H J ∧ PBox J L ∧ ∃ (o2 o3 o4 o5 : Option V) (fs : List Addr), σ = [some (.ref L), some (.ref fg), o2, o3, o4, o5] ∧ J fg = some (.lst (fs.map V.ref)) ∧ fs.length = i ∧ ∀ j, j < i → ∃ t b : Int, J (ad fs j) = some (.tup [.int t, .int b]) ∧ -1000000000 ≤ t ∧ t ≤ 1000000000 ∧ 1 ≤ b ∧ b ≤ 1000) ⟨s0.b, ⟨r0, m0, s0 _ _ hL0, hL1⟩, none, none, none, none, [], rfl, e0, rfl, fun j hj => absurd hj (by omega)⟩ ?_ ?_⟩
  · rintro i σ J hi ⟨sJ, bJ, o2, o3, o4, o5, fs, rfl, eJ, lf, pf⟩
    walk_at "rf"
    obtain ⟨r1, m1, hL1', hb1⟩ := id bJ
    refine ⟨(show CPow _ _ from ⟨by decide, by decide, by decide⟩), by decide, fun p1 hp1 => ?_⟩
    have s1 := Same.new hp1 (.lst [V.int 6, V.int 6, V.int 60, V.int (10 ^ Int.toNat 9)])
    have e1 : upd J p1 (.lst [V.int 6, V.int 6, V.int 60, V.int (10 ^ Int.toNat 9)]) p1 = some (.lst [V.int 6, V.int 6, V.int 60, V.int (10 ^ Int.toNat 9)]) := upd_same
    have n1 : p1 ≠ L := Ne.symm (ne_of_none hL1' hp1)
    generalize upd J p1 (.lst [V.int 6, V.int 6, V.int 60, V.int (10 ^ Int.toNat 9)]) = J1 at s1 e1 ⊢
    refine ⟨L, 4, rfl, ⟨r1, m1, s1 _ _ hL1', hb1⟩, by decide, by decide, fun J2 d1 s2 b2 d10 d11 => ?_⟩
    obtain ⟨sp, hsp, sp1, sp2⟩ : ∃ sp : Int, atI [V.int 6, V.int 6, V.int 60, V.int (10 ^ Int.toNat 9)] d1 = some (.int sp) ∧ 1 ≤ sp ∧ sp ≤ 1000000000 := by
      have e : d1 = 0 ∨ d1 = 1 ∨ d1 = 2 ∨ d1 = 3 := by omega
      rcases e with rfl | rfl | rfl | rfl
      · exact ⟨6, rfl, by decide, by decide⟩
      · exact ⟨6, rfl, by decide, by decide⟩
      · exact ⟨60, rfl, by decide, by decide⟩
      · exact ⟨10 ^ Int.toNat 9, rfl, by decide, by decide⟩
    refine ixL (SqL.of (s2 _ _ n1 e1)) hsp ⟨_, rfl, Bd.fit (n := 3) (by unfold Bd; decide), Bd.fit (n := 31) (by unfold Bd; omega), ?_⟩
    refine ⟨L, 2 * sp + 1, rfl, b2, by omega, by omega, fun J3 d2 s3 b3 d20 d21 => ⟨_, rfl, _, rfl, by decide, fun p4 hp4 => ?_⟩⟩
    obtain ⟨r3, m3, hL3, hb3⟩ := id b3
    have s4 := Same.new hp4 (.lst [V.int 1, V.int 6, V.int 1000])
    have e4 : upd J3 p4 (.lst [V.int 1, V.int 6, V.int 1000]) p4 = some (.lst [V.int 1, V.int 6, V.int 1000]) := upd_same
    have n4 : p4 ≠ L := Ne.symm (ne_of_none hL3 hp4)
    generalize upd J3 p4 (.lst [V.int 1, V.int 6, V.int 1000]) = J4 at s4 e4 ⊢
    refine ⟨L, 3, rfl, ⟨r3, m3, s4 _ _ hL3, hb3⟩, by decide, by decide, fun J5 d3 s5 b5 d30 d31 => ?_⟩
    obtain ⟨mo, hmo, mo1, mo2⟩ : ∃ mo : Int, atI [V.int 1, V.int 6, V.int 1000] d3 = some (.int mo) ∧ 1 ≤ mo ∧ mo ≤ 1000 := by
      have e : d3 = 0 ∨ d3 = 1 ∨ d3 = 2 := by omega
      rcases e with rfl | rfl | rfl
      · exact ⟨1, rfl, by decide, by decide⟩
      · exact ⟨6, rfl, by decide, by decide⟩
      · exact ⟨1000, rfl, by decide, by decide⟩
    have h5 : SameB L J J5 := s1.b.trans (s2.trans (s3.trans (s4.b.trans s5)))
    refine ixL (SqL.of (s5 _ _ n4 e4)) hmo ⟨.inl ⟨_, SqL.of (h5 _ _ nL eJ)⟩, ?_⟩
    refine ⟨L, mo, rfl, b5, by omega, by omega, fun J6 d4 s6 b6 d40 d41 => ⟨_, rfl, by decide, fun p7 hp7 => ?_⟩⟩
    have h6 : SameB L J J6 := h5.trans s6
    have s7 := Same.new hp7 (.tup [.int (d2 - sp), .int (1 + d4)])
    have e7 : upd J6 p7 (.tup [.int (d2 - sp), .int (1 + d4)]) p7 = some (.tup [.int (d2 - sp), .int (1 + d4)]) := upd_same
    generalize upd J6 p7 (.tup [.int (d2 - sp), .int (1 + d4)]) = J7 at s7 e7 ⊢
    have h7 : SameB L J J7 := h6.trans s7.b
    have k7 := h7 _ _ nL eJ
    have tt : SameT J (upd J7 fg (.lst (fs.map V.ref ++ [.ref p7]))) := (SameB.tp h7 bJ).trans (SameT.upd (ys := fs.map V.ref ++ [.ref p7]) k7)
    have es' : fs.map V.ref ++ [V.ref p7] = (fs ++ [p7]).map V.ref := by rw [List.map_append]; rfl
    obtain ⟨r6, m6, hL6, hb6⟩ := b6
    refine ⟨fg, _, _, rfl, rfl, k7, lt_line (by rw [List.length_map]; omega), (sJ.trans h7).acc hfg, ⟨r6, m6, by rw [upd_ne (Ne.symm nL)]; exact s7 _ _ hL6, hb6⟩, ?_⟩
    have lf2 : (fs ++ [p7]).length = i + 1 := by rw [List.length_append, lf]; rfl
    have pf2 : ∀ j, j < i + 1 → ∃ t b : Int, (upd J7 fg (.lst (fs.map V.ref ++ [.ref p7]))) (ad (fs ++ [p7]) j) = some (.tup [.int t, .int b]) ∧ -1000000000 ≤ t ∧ t ≤ 1000000000 ∧ 1 ≤ b ∧ b ≤ 1000 := fun j hj => by
      by_cases c : j < fs.length
      · obtain ⟨t, b, h1, h2⟩ := pf j (by omega)
        rw [(ad_app (fs := fs) (g := p7) (i := j)).1 c]
        exact ⟨t, b, tt _ _ h1, h2⟩
      · have ej : j = fs.length := by omega
        subst ej
        rw [(ad_app (fs := fs) (g := p7) (i := 0)).2]
        exact ⟨_, _, SameT.upd (ys := fs.map V.ref ++ [V.ref p7]) k7 _ _ e7, by omega, by omega, by omega, by omega⟩
    first | exact ⟨_, _, _, _, fs ++ [p7], rfl, by rw [← es']; exact upd_same, lf2, pf2⟩ | exact ⟨fs ++ [p7], by rw [← es']; exact upd_same, lf2, pf2⟩
  · rintro σ J ⟨sJ, bJ, o2, o3, o4, o5, fs, rfl, eJ, lf, pf⟩
    walk_at "rf"
    obtain ⟨t0, b0, h0, a1, a2, a3, a4⟩ := pf 0 (by omega)
    obtain ⟨t1', b1, h1, c1, c2, c3, c4⟩ := pf 1 (by omega)
    have kf : SqL K J fg (fs.map V.ref) := SqL.of eJ
    have k0 : SqT K J (ad fs 0) [.int t0, .int b0] := SqT.of h0
    have k1 : SqT K J (ad fs 1) [.int t1', .int b1] := SqT.of h1
    have g0 : atI (fs.map V.ref) 0 = some (.ref (ad fs 0)) := atI_nat (j := 0) (ad_get (by omega))
    have g1 : atI (fs.map V.ref) 1 = some (.ref (ad fs 1)) := atI_nat (j := 1) (ad_get (by omega))
    have f1 : Fit t0 := Bd.fit (n := 31) (by unfold Bd; omega)
    have f2 : Fit b0 := Bd.fit (n := 31) (by unfold Bd; omega)
    have f3 : Fit t1' := Bd.fit (n := 31) (by unfold Bd; omega)
    have f4 : Fit b1 := Bd.fit (n := 31) (by unfold Bd; omega)
    have B0 : Bd 30 t0 := by unfold Bd; omega
    have B1 : Bd 30 t1' := by unfold Bd; omega
    have B2 : Bd 10 b0 := by unfold Bd; omega
    have B3 : Bd 10 b1 := by unfold Bd; omega
    refine ixL kf g0 (ixT k0 (i := 0) rfl (ixL kf g1 (ixT k1 (i := 1) rfl ⟨_, rfl, _, rfl, f1, f4, ?_⟩)))
    refine ixL kf g1 (ixT k1 (i := 0) rfl (ixL kf g0 (ixT k0 (i := 1) rfl ⟨_, rfl, _, rfl, f3, f2, ?_⟩)))
    refine ixL kf g0 (ixT k0 (i := 1) rfl (ixL kf g1 (ixT k1 (i := 1) rfl ⟨_, rfl, _, rfl, f2, f4, by decide, fun p hp => ?_⟩)))
    obtain ⟨r6, m6, hL6, hb6⟩ := id bJ
    have np : p ≠ L := Ne.symm (ne_of_none hL6 hp)
    have x1 : Bd 40 (t0 * b1) := Bd.mul (n := 30) (m := 10) B0 B3
    have x2 : Bd 40 (t1' * b0) := Bd.mul (n := 30) (m := 10) B1 B2
    have x3 : Bd 20 (b0 * b1) := Bd.mul (n := 10) (m := 10) B2 B3
    exact q p _ ⟨t0 * b1, t1' * b0, b0 * b1⟩ (sJ.trans (Same.new hp _).b) ⟨r6, m6, (Same.new hp _) _ _ hL6, hb6⟩ (SameB.none sJ np hp) upd_same ⟨Bd.mono x1, Bd.mono x2, Bd.mono x3, Int.mul_pos (by omega) (by omega)⟩ (Bd.mono x1) (Bd.mono x2) (Bd.mono x3)
def spPoly : Sp := fun vs H Q _ => ∃ L : Addr, vs = [.ref L] ∧ PBox H L ∧ ∀ (g : Addr) (H' : Hp) (rs : List Addr) (c : Nat → Tri), SameB L H H' → PBox H' L → H' g = some (.lst (rs.map V.ref)) → 3 ≤ rs.length → rs.length ≤ 8 → Crs H' rs c → Rnd2 c rs.length → Q (.ref g) H'
theorem Crs.snoc {H : Hp} {fs : List Addr} {c : Nat → Tri} {g : Addr} {v : Tri} (h : Crs H fs c) (hg : PlA H g v) (hv : Cn v) : Crs H (fs ++ [g]) (fun j => if j < fs.length then c j else v) := by
  have l : (fs ++ [g]).length = fs.length + 1 := by rw [List.length_append]; rfl
  refine ⟨fun i hi => ?_, fun i hi => ?_⟩
  · by_cases e : i < fs.length
    · rw [if_pos e, (ad_app (fs := fs) (g := g) (i := i)).1 e]
      exact h.at_ i e
    · have e2 : i = fs.length := by omega
      subst e2
      rw [if_neg e, (ad_app (fs := fs) (g := g) (i := 0)).2]
      exact hg
  · by_cases e : i < fs.length
    · rw [if_pos e]
      exact h.cn i e
    · rw [if_neg e]
      exact hv
theorem ix14 : ∀ n, n < 9 → ∀ k, k < n → ∀ m, m < n → (m + 1) % n ≠ k → m ≠ (k + (n - 1)) % n := by decide +kernel
theorem ring_rnd {x y z w : Int} {n : Nat} (n3 : 3 ≤ n) (n8 : n ≤ 8) (z1 : 1 ≤ z) (w1 : 1 ≤ w) : Rnd2 (fun i => ⟨x + w * z * ringP i, y + z * ringQ i, z⟩) n := by
  have hix : Ix (List.range n) := ⟨by rw [List.length_range]; exact n3, by rw [List.length_range]; exact n8, List.pairwise_lt_range, fun i hi => by have := List.mem_range.mp hi; omega⟩
  intro k hk m hm mk mk1
  have zz := dt_ge (s := 1) (t := 1) hix (by decide) (by decide) (x := k) (j := m) (by rw [List.length_range]; exact hk) (by rw [List.length_range]; exact hm)
  rw [List.length_range] at zz
  have p := zz.2.1 mk (ix14 n (by omega) k hk m hm mk1)
  have md : (k + (n - 1)) % n < n := Nat.mod_lt _ (by omega)
  have g : ∀ i, i < n → Qa 1 1 (List.range n) i = ⟨ringP i * 1, ringQ i * 1, 1 * 1⟩ := fun i hi => by
    unfold Qa plc
    rw [List.getD_eq_getElem?_getD, List.getElem?_range hi]
    rfl
  rw [g _ md, g k hk, g m hm] at p
  have e : ∀ a b c : Nat, dt ⟨x + w * z * ringP a, y + z * ringQ a, z⟩ ⟨x + w * z * ringP b, y + z * ringQ b, z⟩ ⟨x + w * z * ringP c, y + z * ringQ c, z⟩ = w * z * z * z * dt ⟨ringP a * 1, ringQ a * 1, 1 * 1⟩ ⟨ringP b * 1, ringQ b * 1, 1 * 1⟩ ⟨ringP c * 1, ringQ c * 1, 1 * 1⟩ := fun a b c => by
    unfold dt det3
    dsimp only
    grind
  show 0 < dt ⟨x + w * z * ringP ((k + (n - 1)) % n), y + z * ringQ ((k + (n - 1)) % n), z⟩ ⟨x + w * z * ringP k, y + z * ringQ k, z⟩ ⟨x + w * z * ringP m, y + z * ringQ m, z⟩
  rw [e]
  exact Int.mul_pos (Int.mul_pos (Int.mul_pos (Int.mul_pos (by omega) (by omega)) (by omega)) (by omega)) p
theorem rds_pl {H : Hp} {r : Addr} {v : Tri} (h : PlA H r v) : ∃ d, Rds K H (.ref r) d ∧ PyData.canLay0 d = true ∧ d.depth ≤ 8 :=
  ⟨.tuple [.int v.x, .int v.y, .int v.z], .tup (SqT.of h) (.cons (.int _) (.cons (.int _) (.cons (.int _) .nil))), by simp [PyData.canLay0, PyData.canLayAll0], by simp [PyData.depth, PyData.depthAll]⟩
theorem ok_poly (T : Tx K mg t1 t2) (F : At K mg "_law_some_polygon" s__law_some_polygon ["pool"] []) (d__law_take : DefOk P w K mg base CX0 1 "_law_take" ["pool", "many"] [] spTake) (d__law_some_corner : DefOk P w K mg base CX0 2 "_law_some_corner" ["pool"] [] spCorner) (d__law_is_round : DefOk P w K mg base CX0 3 "_law_is_round" ["corners"] [] spRound) : DefOk P w K mg base CX0 4 "_law_some_polygon" ["pool"] [] spPoly := by
  refine F.okW sc__law_some_polygon (fun vs H Q E h => ?_) (fun f cdv A outer s H vs Q E hr h => ?_)
  · obtain ⟨L, rfl, _⟩ := h
    rfl
  obtain ⟨L, rfl, hL, q⟩ := h
  have S := sc__law_some_polygon
  refine ⟨_, (wss_cons ⟨(ps_set (i := 1) S.nd rfl (Or.inl rfl) (pe_lst pa_nil))⟩
    (wss_cons ⟨(ps_for PassesOwn.never rfl (pi_range1 rfl T.m_range (pa_cons (pe_op op_add pe_int (pe_callD d__law_take (hr.mono (by decide)) rfl pass0 (pa_cons (pv 0) (pa_cons pe_int pa_nil se_con) se_nam))) pa_nil se_bin)) (pg_name (i := 2) S.nd rfl (Or.inl rfl))
    (pss_cons (ps_set (i := 3) S.nd rfl (Or.inl rfl) (pe_callD d__law_some_corner (hr.mono (by decide)) rfl pass0 (pa_cons (pv 0) pa_nil se_nam)))
    (pss_one (ps_if (PW.pt (pw_or (PW.pt (pw_and (pt_cmpR op_lt (pe_callB call_len_seq rfl T.m_len PySem.boot_len (pa_cons (pv 1) pa_nil se_nam)) pe_int (nomark _)) (pw_and1 (pt_cmpR (op_notInQ (un64 hr)) (pv 3) (pv 1) rfl)))) (pw_or1 (PW.pt (pw_and (pt_cmpR op_gt (pe_callB call_len_seq rfl T.m_len PySem.boot_len (pa_cons (pv 1) pa_nil se_nam)) pe_int (nomark _)) (pw_and1 (pt_val (pe_callD d__law_is_round (hr.mono (by decide)) rfl pass0 (pa_cons (pe_op op_cat (pv 1) (pe_lst (pa_cons (pv 3) pa_nil se_nam))) pa_nil se_bin)))))))))
    (pss_one (ps_expr (pe_bm PySem.F.plainAttrs_list PySem.F.slot_list_append PySem.F.type_list_append mt_append (pv 1) (pa_cons (pv 3) pa_nil se_nam))))
    pss_nil))))⟩
    (wss_cons (ws_if (pt_cmpR op_lt (pe_callB call_len_seq rfl T.m_len PySem.boot_len (pa_cons (pv 1) pa_nil se_nam)) pe_int (nomark _)) (wss_cons ⟨(ps_asg (pe_callD d__law_some_corner (hr.mono (by decide)) rfl pass0 (pa_cons (pv 0) pa_nil se_nam)) (pg_tup rfl (pgs_cons (pg_name (i := 4) S.nd rfl (Or.inr rfl)) (pgs_cons (pg_name (i := 5) S.nd rfl (Or.inr rfl)) (pgs_cons (pg_name (i := 6) S.nd rfl (Or.inr rfl)) pgs_nil)))))⟩
    (wss_cons ⟨(ps_set (i := 7) S.nd rfl (Or.inr rfl) (pe_op op_add pe_int (pe_callD d__law_take (hr.mono (by decide)) rfl pass0 (pa_cons (pv 0) (pa_cons pe_int pa_nil se_con) se_nam))))⟩
    (wss_cons (ws_asg (we_lst (wa_cons (we_tup (wa_cons ⟨pe_int⟩ (wa_cons ⟨pe_int⟩ wa_nil se_con) se_con)) (wa_cons (we_tup (wa_cons ⟨pe_int⟩ (wa_cons ⟨pe_int⟩ wa_nil se_con) se_con)) (wa_cons (we_tup (wa_cons ⟨pe_int⟩ (wa_cons ⟨pe_int⟩ wa_nil se_con) se_con)) (wa_cons (we_tup (wa_cons ⟨pe_int⟩ (wa_cons ⟨pe_int⟩ wa_nil se_con) se_con)) (wa_cons (we_tup (wa_cons ⟨pe_int⟩ (wa_cons ⟨pe_int⟩ wa_nil se_con) se_con)) (wa_cons (we_tup (wa_cons ⟨pe_int⟩ (wa_cons ⟨pe_int⟩ wa_nil se_con) se_con)) (wa_cons (we_tup (wa_cons ⟨pe_int⟩ (wa_cons ⟨pe_int⟩ wa_nil se_con) se_con)) (wa_cons (we_tup (wa_cons ⟨pe_int⟩ (wa_cons ⟨pe_int⟩ wa_nil se_con) se_con)) wa_nil se_tup) se_tup) se_tup) se_tup) se_tup) se_tup) se_tup) se_tup)) (pg_name (i := 8) S.nd rfl (Or.inl rfl)))
    (wss_cons ⟨(ps_set (i := 8) S.nd rfl (Or.inl rfl) (pe_slice sl_list (pv 8) po_none (po_some (pe_op op_add pe_int (pe_callD d__law_take (hr.mono (by decide)) rfl pass0 (pa_cons (pv 0) (pa_cons pe_int pa_nil se_con) se_nam))))))⟩
    (wss_one ⟨(ps_setCompM (i := 1) rfl S.nd rfl rfl (N' := ["one", "other", "u", "wide", "w", "v"]) (ix := [4, 7, 6, 5]) (xs0 := ["one", "other"]) ⟨rfl, rfl, by decide +kernel, by decide +kernel, by decide +kernel, (show ∀ y : Str × NameKind, y ∈ _ → y.2 = NameKind.free → (defScope s__law_some_polygon).names.lookup y.1 = some .cell ∨ (defScope s__law_some_polygon).names.lookup y.1 = some .free from by decide +kernel), (.cons rfl (.inl rfl) rfl (.cons rfl (.inl rfl) rfl (.cons rfl (.inl rfl) rfl (.cons rfl (.inl rfl) rfl .nil))))⟩ (pi_list (pv 8)) (fun _ _ _ _ => pg_tupK (K := K) (n := 2) rfl rfl (pgs_cons (pg_name (i := 0) (show (["one", "other", "u", "wide", "w", "v"] : List Str).Nodup from by decide +kernel) rfl (Or.inl rfl)) (pgs_cons (pg_name (i := 1) (show (["one", "other", "u", "wide", "w", "v"] : List Str).Nodup from by decide +kernel) rfl (Or.inl rfl)) pgs_nil))) (fun _ _ _ _ => pts_nil) (fun _ _ _ _ => (pe_tup (pa_cons (pe_op op_add (pv 2) (pe_op op_mulB (pe_op op_mulB (pv 3) (pv 4)) (pv 0))) (pa_cons (pe_op op_add (pv 5) (pe_op op_mulB (pv 4) (pv 1))) (pa_cons (pv 4) pa_nil se_nam) se_bin) se_bin))))⟩))))) ⟨pss_nil⟩)
    ⟨(pss_one (ps_ret (pv 1)))⟩))), ?_⟩
  obtain ⟨r0, m0, hL0, hL1⟩ := id hL
  walk_at "rf"
  refine ⟨by decide, fun fg hfg => ?_⟩
  have s0 := Same.new hfg (.lst [])
  have e0 : upd H fg (.lst []) fg = some (.lst (([] : List Addr).map V.ref)) := upd_same
  have nL : fg ≠ L := Ne.symm (ne_of_none hL0 hfg)
  generalize upd H fg (.lst []) = H0 at s0 e0 ⊢
  refine ⟨L, 6, rfl, ⟨r0, m0, s0 _ _ hL0, hL1⟩, by decide, by decide, fun H1 d1 s1 b1 d10 d11 => ?_⟩
  try walk_at "rf"
  refine ⟨by omega, by omega, for_range (lo := 0) (n := _) (fun i σ J => SameB L H J ∧ PBox J L ∧ ∃ (o2 o3 : Option V) (fs : List Addr) (c : Nat → Tri), σ = [some (.ref L), some (.ref fg), o2, o3, none, none, none, none, none] ∧ J fg = some (.lst (fs.map V.ref)) ∧ fs.length ≤ i ∧ Crs J fs c ∧ (3 ≤ fs.length → Rnd2 c fs.length)) ⟨s0.b.trans s1, b1, none, none, [], fun _ => ⟨0, 0, 0⟩, rfl, s1 _ _ nL e0, Nat.le_refl _, ⟨fun i hi => absurd hi (by simp), fun i hi => absurd hi (by simp)⟩, fun h => absurd h (by simp)⟩ ?_ ?_⟩
  · rintro i σ J hi ⟨sJ, bJ, o2, o3, fs, c, rfl, eJ, lf, hc, hr'⟩
    walk_at "rf"
    refine ⟨L, rfl, bJ, fun g J1 v s2 b2 hg hv cv v1 v2 v3 => ?_⟩
    have eJ1 := s2 _ _ nL eJ
    have hc1 := hc.keep (SameB.tp s2 bJ)
    have kf : SqL K J1 fg (fs.map V.ref) := SqL.of eJ1
    have lm : (fs.map V.ref).length = fs.length := List.length_map _
    try walk_at "rf"
    refine ⟨_, .inl kf, ?_⟩
    obtain ⟨r2', m2', hL2, hb2⟩ := id b2
    have es' : fs.map V.ref ++ [V.ref g] = (fs ++ [g]).map V.ref := by rw [List.map_append]; rfl
    have ls : (fs ++ [g]).length = fs.length + 1 := by rw [List.length_append]; rfl
    obtain ⟨cc, ecc⟩ : ∃ cc : Nat → Tri, cc = fun j => if j < fs.length then c j else v := ⟨_, rfl⟩
    have snocE : Crs J1 (fs ++ [g]) cc := by rw [ecc]; exact hc1.snoc hv cv
    by_cases c2 : ((fs.map V.ref).length : Int) < 2
    · rw [if_pos c2]
      refine ⟨fg, _, rfl, kf, rds_pl hv, fun y hy => ?_, fun k => ⟨k, rfl, ?_⟩⟩
      · obtain ⟨r', hr1, rfl⟩ := List.mem_map.mp hy
        obtain ⟨j, hj, e⟩ := List.mem_iff_getElem.mp hr1
        have z := hc1.at_ j hj
        have ea : ad fs j = r' := by
          unfold ad
          rw [List.getD_eq_getElem?_getD, List.getElem?_eq_getElem hj, e]
          rfl
        rw [ea] at z
        exact rds_pl z
      · cases k with
        | true =>
          rw [if_pos rfl]
          have SX := Same.refl J1
          have RX : 3 ≤ (fs ++ [g]).length → Rnd2 cc (fs ++ [g]).length := fun h => absurd h (by omega)
          exact ⟨.inl ⟨_, SqL.of (SX _ _ eJ1)⟩, fg, _, _, rfl, rfl, SX _ _ eJ1, lt_line (by rw [List.length_map]; omega), (sJ.trans (s2.trans SX.b)).acc hfg, ⟨r2', m2', by rw [upd_ne (Ne.symm nL)]; exact SX _ _ hL2, hb2⟩, fs ++ [g], by rw [← es']; exact upd_same, by omega, cc, snocE.keep (SX.t.trans (SameT.upd (ys := fs.map V.ref ++ [V.ref g]) (SX _ _ eJ1))), RX⟩
        | false =>
          rw [if_neg (by decide)]
          refine ⟨_, .inl kf, ?_⟩
          by_cases c1 : 1 < ((fs.map V.ref).length : Int)
          · rw [if_pos (by omega)]
            refine ⟨by decide, fun p hp => ?_⟩
            have s3 := Same.new hp (.lst [.ref g])
            have e3 : upd J1 p (.lst [.ref g]) p = some (.lst [.ref g]) := upd_same
            generalize upd J1 p (.lst [.ref g]) = J3 at s3 e3 ⊢
            refine ⟨fg, p, _, _, rfl, rfl, s3 _ _ eJ1, e3, ?_, fun p4 hp4 => ?_⟩
            · rw [lm]
              exact Nat.le_trans (show fs.length + 1 ≤ 1000 by omega) (by decide)
            rw [es']
            have s4 := Same.new hp4 (.lst ((fs ++ [g]).map V.ref))
            have e4 : upd J3 p4 (.lst ((fs ++ [g]).map V.ref)) p4 = some (.lst ((fs ++ [g]).map V.ref)) := upd_same
            generalize upd J3 p4 (.lst ((fs ++ [g]).map V.ref)) = J4 at s4 e4 ⊢
            have s14 := s3.trans s4
            refine ⟨p4, fs ++ [g], cc, rfl, e4, snocE.keep s14.t, by omega, fun J5 s5 n3' rr => ⟨true, rfl, ?_⟩, fun J5 s5 => ⟨false, rfl, ?_⟩⟩
            · rw [if_pos rfl]
              have SX := s14.trans s5
              have RX : 3 ≤ (fs ++ [g]).length → Rnd2 cc (fs ++ [g]).length := fun _ => rr
              exact ⟨.inl ⟨_, SqL.of (SX _ _ eJ1)⟩, fg, _, _, rfl, rfl, SX _ _ eJ1, lt_line (by rw [List.length_map]; omega), (sJ.trans (s2.trans SX.b)).acc hfg, ⟨r2', m2', by rw [upd_ne (Ne.symm nL)]; exact SX _ _ hL2, hb2⟩, fs ++ [g], by rw [← es']; exact upd_same, by omega, cc, snocE.keep (SX.t.trans (SameT.upd (ys := fs.map V.ref ++ [V.ref g]) (SX _ _ eJ1))), RX⟩
            · rw [if_neg (by decide)]
              have SX := s14.trans s5
              exact ⟨sJ.trans (s2.trans SX.b), ⟨r2', m2', SX _ _ hL2, hb2⟩, fs, SX _ _ eJ1, by omega, c, hc1.keep SX.t, hr'⟩
          · rw [if_neg c1]
            exact ⟨sJ.trans s2, b2, fs, eJ1, by omega, c, hc1, hr'⟩
    · rw [if_neg c2]
      refine ⟨_, .inl kf, ?_⟩
      rw [if_pos (by omega)]
      refine ⟨by decide, fun p hp => ?_⟩
      have s3 := Same.new hp (.lst [.ref g])
      have e3 : upd J1 p (.lst [.ref g]) p = some (.lst [.ref g]) := upd_same
      generalize upd J1 p (.lst [.ref g]) = J3 at s3 e3 ⊢
      refine ⟨fg, p, _, _, rfl, rfl, s3 _ _ eJ1, e3, ?_, fun p4 hp4 => ?_⟩
      · rw [lm]
        exact Nat.le_trans (show fs.length + 1 ≤ 1000 by omega) (by decide)
      rw [es']
      have s4 := Same.new hp4 (.lst ((fs ++ [g]).map V.ref))
      have e4 : upd J3 p4 (.lst ((fs ++ [g]).map V.ref)) p4 = some (.lst ((fs ++ [g]).map V.ref)) := upd_same
      generalize upd J3 p4 (.lst ((fs ++ [g]).map V.ref)) = J4 at s4 e4 ⊢
      have s14 := s3.trans s4
      refine ⟨p4, fs ++ [g], cc, rfl, e4, snocE.keep s14.t, by omega, fun J5 s5 n3' rr => ⟨true, rfl, ?_⟩, fun J5 s5 => ⟨false, rfl, ?_⟩⟩
      · rw [if_pos rfl]
        have SX := s14.trans s5
        have RX : 3 ≤ (fs ++ [g]).length → Rnd2 cc (fs ++ [g]).length := fun _ => rr
        exact ⟨.inl ⟨_, SqL.of (SX _ _ eJ1)⟩, fg, _, _, rfl, rfl, SX _ _ eJ1, lt_line (by rw [List.length_map]; omega), (sJ.trans (s2.trans SX.b)).acc hfg, ⟨r2', m2', by rw [upd_ne (Ne.symm nL)]; exact SX _ _ hL2, hb2⟩, fs ++ [g], by rw [← es']; exact upd_same, by omega, cc, snocE.keep (SX.t.trans (SameT.upd (ys := fs.map V.ref ++ [V.ref g]) (SX _ _ eJ1))), RX⟩
      · rw [if_neg (by decide)]
        have SX := s14.trans s5
        exact ⟨sJ.trans (s2.trans SX.b), ⟨r2', m2', SX _ _ hL2, hb2⟩, fs, SX _ _ eJ1, by omega, c, hc1.keep SX.t, hr'⟩
  · rintro σ J ⟨sJ, bJ, o2, o3, fs, c, rfl, eJ, lf, hc, hr'⟩
    have kf : SqL K J fg (fs.map V.ref) := SqL.of eJ
    have lm : (fs.map V.ref).length = fs.length := List.length_map _
    walk_at "rf"
    refine ⟨_, .inl kf, ?_⟩
    by_cases c3 : ((fs.map V.ref).length : Int) < 3
    · rw [if_pos c3]
      refine ⟨L, rfl, bJ, fun g J1 v s2 b2 hg hv cv v1 v2 v3 => ?_⟩
      obtain ⟨r2', m2', hL2, hb2⟩ := id b2
      have hv1 : SqT K J1 g [.int v.x, .int v.y, .int v.z] := SqT.of hv
      refine ⟨g, rfl, _, hv1, rfl, _, _, rfl, _, _, rfl, _, _, rfl, rfl, ?_⟩
      refine ⟨L, 9, rfl, b2, by decide, by decide, fun K0 dw s3 b3 dw0 dw1 => ⟨_, rfl, ?_⟩⟩
      obtain ⟨r3, m3, hL3, hb3⟩ := id b3
      refine ⟨by decide, fun p0 hp0 => ?_⟩
      have u0 := Same.new hp0 (.tup [.int 1, .int 0])
      have w0 : upd K0 p0 (.tup [.int 1, .int 0]) p0 = some (.tup [.int (ringP 0), .int (ringQ 0)]) := upd_same
      generalize upd K0 p0 (.tup [.int 1, .int 0]) = K1 at u0 w0 ⊢
      refine ⟨by decide, fun p1 hp1 => ?_⟩
      have u1 := Same.new hp1 (.tup [.int 2, .int 0])
      have w1 : upd K1 p1 (.tup [.int 2, .int 0]) p1 = some (.tup [.int (ringP 1), .int (ringQ 1)]) := upd_same
      generalize upd K1 p1 (.tup [.int 2, .int 0]) = K2 at u1 w1 ⊢
      refine ⟨by decide, fun p2 hp2 => ?_⟩
      have u2 := Same.new hp2 (.tup [.int 3, .int 1])
      have w2 : upd K2 p2 (.tup [.int 3, .int 1]) p2 = some (.tup [.int (ringP 2), .int (ringQ 2)]) := upd_same
      generalize upd K2 p2 (.tup [.int 3, .int 1]) = K3 at u2 w2 ⊢
      refine ⟨by decide, fun p3 hp3 => ?_⟩
      have u3 := Same.new hp3 (.tup [.int 3, .int 2])
      have w3 : upd K3 p3 (.tup [.int 3, .int 2]) p3 = some (.tup [.int (ringP 3), .int (ringQ 3)]) := upd_same
      generalize upd K3 p3 (.tup [.int 3, .int 2]) = K4 at u3 w3 ⊢
      refine ⟨by decide, fun p4 hp4 => ?_⟩
      have u4 := Same.new hp4 (.tup [.int 2, .int 3])
      have w4 : upd K4 p4 (.tup [.int 2, .int 3]) p4 = some (.tup [.int (ringP 4), .int (ringQ 4)]) := upd_same
      generalize upd K4 p4 (.tup [.int 2, .int 3]) = K5 at u4 w4 ⊢
      refine ⟨by decide, fun p5 hp5 => ?_⟩
      have u5 := Same.new hp5 (.tup [.int 1, .int 3])
      have w5 : upd K5 p5 (.tup [.int 1, .int 3]) p5 = some (.tup [.int (ringP 5), .int (ringQ 5)]) := upd_same
      generalize upd K5 p5 (.tup [.int 1, .int 3]) = K6 at u5 w5 ⊢
      refine ⟨by decide, fun p6 hp6 => ?_⟩
      have u6 := Same.new hp6 (.tup [.int 0, .int 2])
      have w6 : upd K6 p6 (.tup [.int 0, .int 2]) p6 = some (.tup [.int (ringP 6), .int (ringQ 6)]) := upd_same
      generalize upd K6 p6 (.tup [.int 0, .int 2]) = K7 at u6 w6 ⊢
      refine ⟨by decide, fun p7 hp7 => ?_⟩
      have u7 := Same.new hp7 (.tup [.int 0, .int 1])
      have w7 : upd K7 p7 (.tup [.int 0, .int 1]) p7 = some (.tup [.int (ringP 7), .int (ringQ 7)]) := upd_same
      generalize upd K7 p7 (.tup [.int 0, .int 1]) = K8 at u7 w7 ⊢
      refine ⟨by decide, fun p8 hp8 => ?_⟩
      have u8 := Same.new hp8 (.lst [V.ref p0, V.ref p1, V.ref p2, V.ref p3, V.ref p4, V.ref p5, V.ref p6, V.ref p7])
      have w8 : upd K8 p8 (.lst [V.ref p0, V.ref p1, V.ref p2, V.ref p3, V.ref p4, V.ref p5, V.ref p6, V.ref p7]) p8 = some (.lst ([p0, p1, p2, p3, p4, p5, p6, p7].map V.ref)) := upd_same
      generalize upd K8 p8 (.lst [V.ref p0, V.ref p1, V.ref p2, V.ref p3, V.ref p4, V.ref p5, V.ref p6, V.ref p7]) = K9 at u8 w8 ⊢
      have s39 : Same K0 K9 := (u0.trans (u1.trans (u2.trans (u3.trans (u4.trans (u5.trans (u6.trans (u7.trans u8))))))))
      have b9 : PBox K9 L := ⟨r3, m3, s39 _ _ hL3, hb3⟩
      have n8 : p8 ≠ L := fun e => by
        have z := s39 _ _ hL3
        rw [← e, w8] at z
        have z2 := congrArg List.length (HO.lst.inj (Option.some.inj z))
        exact absurd z2 (by simp)
      refine ⟨L, 6, rfl, b9, by decide, by decide, fun K10 d6 s10 b10 d60 d61 => ⟨_, rfl, ?_⟩⟩
      obtain ⟨d, rfl⟩ := Int.eq_ofNat_of_zero_le d60
      refine ⟨p8, _, rfl, SqL.of (s10 _ _ n8 w8), fun p9 hp9 => ?_⟩
      rw [show (3 + (d : Int)) = ((3 + d : Nat) : Int) by omega, cut_take, ← List.map_take]
      have s11 := Same.new hp9 (.lst (([p0, p1, p2, p3, p4, p5, p6, p7].take (3 + d)).map V.ref))
      have e11 : upd K10 p9 (.lst (([p0, p1, p2, p3, p4, p5, p6, p7].take (3 + d)).map V.ref)) p9 = some (.lst (([p0, p1, p2, p3, p4, p5, p6, p7].take (3 + d)).map V.ref)) := upd_same
      generalize upd K10 p9 (.lst (([p0, p1, p2, p3, p4, p5, p6, p7].take (3 + d)).map V.ref)) = K11 at s11 e11 ⊢
      have t11 : SameT K9 K11 := (SameB.tp s10 b9).trans s11.t
      have ring : ∀ i, i < 8 → K11 (ad [p0, p1, p2, p3, p4, p5, p6, p7] i) = some (.tup [.int (ringP i), .int (ringQ i)]) := fun i hi => by
        match i, hi with
        | 0, _ => exact t11 _ _ ((u1.trans (u2.trans (u3.trans (u4.trans (u5.trans (u6.trans (u7.trans u8))))))) _ _ w0)
        | 1, _ => exact t11 _ _ ((u2.trans (u3.trans (u4.trans (u5.trans (u6.trans (u7.trans u8)))))) _ _ w1)
        | 2, _ => exact t11 _ _ ((u3.trans (u4.trans (u5.trans (u6.trans (u7.trans u8))))) _ _ w2)
        | 3, _ => exact t11 _ _ ((u4.trans (u5.trans (u6.trans (u7.trans u8)))) _ _ w3)
        | 4, _ => exact t11 _ _ ((u5.trans (u6.trans (u7.trans u8))) _ _ w4)
        | 5, _ => exact t11 _ _ ((u6.trans (u7.trans u8)) _ _ w5)
        | 6, _ => exact t11 _ _ ((u7.trans u8) _ _ w6)
        | 7, _ => exact t11 _ _ (u8 _ _ w7)
      have lt8 : ([p0, p1, p2, p3, p4, p5, p6, p7].take (3 + d)).length = 3 + d := by
        rw [List.length_take]
        show min (3 + d) 8 = 3 + d
        omega
      have get : ∀ i, i < 3 + d → (([p0, p1, p2, p3, p4, p5, p6, p7].take (3 + d)).map V.ref)[i]? = some (.ref (ad [p0, p1, p2, p3, p4, p5, p6, p7] i)) := fun i hi => by
        have h8 : i < [p0, p1, p2, p3, p4, p5, p6, p7].length := by show i < 8; omega
        rw [List.getElem?_map, List.getElem?_take_of_lt hi]
        unfold ad
        rw [List.getD_eq_getElem?_getD, List.getElem?_eq_getElem h8]
        rfl
      generalize [p0, p1, p2, p3, p4, p5, p6, p7] = es8 at *
      refine ⟨p9, rfl, ⟨_, SqL.of e11⟩, fun a12 ha12 => ?_⟩
      obtain ⟨cx, cy, cz, z1⟩ := cv
      have fz : Fit v.z := cz.fit
      have fw : Fit (1 + dw) := Bd.fit (n := 5) (by unfold Bd; omega)
      have bwz : Bd 26 ((1 + dw) * v.z) := Bd.mul (n := 5) (m := 21) (by unfold Bd; omega) v3
      have fwz := bwz.fit
      have cr : ∀ i, Cn ⟨v.x + (1 + dw) * v.z * ringP i, v.y + v.z * ringQ i, v.z⟩ := fun i => by
        obtain ⟨⟨a1, a2⟩, a3, a4⟩ := ring_bd i
        have x1 : Bd 28 ((1 + dw) * v.z * ringP i) := Bd.mul (n := 26) (m := 2) bwz (by unfold Bd; omega)
        have x2 : Bd 23 (v.z * ringQ i) := Bd.mul (n := 21) (m := 2) v3 (by unfold Bd; omega)
        exact ⟨Bd.mono (n := 42) (Bd.add (n := 41) v1 (Bd.mono x1)), Bd.mono (n := 42) (Bd.add (n := 41) v2 (Bd.mono x2)), cz, z1⟩
      refine compLM (zs := (es8.take (3 + d)).map V.ref) (fun i y H' => ∃ r : Addr, y = .ref r ∧ PlA H' r ⟨v.x + (1 + dw) * v.z * ringP i, v.y + v.z * ringQ i, v.z⟩) (fun i y J J' ⟨r, h1, h2⟩ st => ⟨r, h1, st _ _ h2⟩) (by rw [List.length_map, lt8]; omega) ha12 (SqL.of e11) ?_ ?_ ?_
      · intro i z v0 K12 R hi l0 s12 hR
        have hi8 : i < 3 + d := by have := (List.getElem?_eq_some_iff.mp hi).1; rw [List.length_map, lt8] at this; exact this
        rw [get i hi8] at hi
        cases hi
        have k12 : SqT K K12 (ad es8 i) [.int (ringP i), .int (ringQ i)] := SqT.of (s12 _ _ (ring i (by omega)))
        obtain ⟨⟨a1, a2⟩, a3, a4⟩ := ring_bd i
        have fp : Fit (ringP i) := Bd.fit (n := 3) (by unfold Bd; omega)
        have fq : Fit (ringQ i) := Bd.fit (n := 3) (by unfold Bd; omega)
        match v0, l0 with
        | [y1, y2], _ =>
          walk_at "rf"
          refine ⟨_, k12, rfl, _, _, rfl, _, _, rfl, rfl, ⟨[_, _], rfl, rfl⟩, ?_⟩
          first | exact ⟨_, rfl, fw, fz, fwz, fp, _, rfl, fz, fq, by decide, fun p hp => hR _ _ (Same.new hp _) ⟨p, rfl, upd_same⟩⟩ | exact ⟨fw, fz, _, rfl, fwz, fp, _, rfl, fz, fq, by decide, fun p hp => hR _ _ (Same.new hp _) ⟨p, rfl, upd_same⟩⟩
      · intro ys K12 s12 e12 l12 p12
        obtain ⟨rs, rfl⟩ : ∃ rs : List Addr, ys = rs.map V.ref := refs_of fun i y hy => let ⟨r, h1, _⟩ := p12 i y hy; ⟨r, h1⟩
        have lr : rs.length = 3 + d := by rw [← lt8, ← List.length_map (f := V.ref) (as := es8.take (3 + d)), ← l12, List.length_map]
        have b11 : PBox K12 L := let ⟨r, m, h1, h2⟩ := b10; ⟨r, m, s12 _ _ (s11 _ _ h1), h2⟩
        refine q a12 K12 rs (fun i => ⟨v.x + (1 + dw) * v.z * ringP i, v.y + v.z * ringQ i, v.z⟩) (sJ.trans (s2.trans (s3.trans (s39.b.trans (s10.trans (s11.trans s12).b))))) b11 e12 (by omega) (by omega) ⟨fun i hi => ?_, fun i hi => cr i⟩ ?_
        · obtain ⟨r, h1, h2⟩ := p12 i _ (ad_get hi)
          cases h1
          exact h2
        · exact ring_rnd (by omega) (by omega) (by omega) (by omega)
      · intro z σ J A B hAB h
        obtain ⟨a, xs, e1, e2, e3, y1, r1, e4, y2, r2, e5, e6, h8⟩ := h
        exact ⟨a, xs, e1, e2, e3, y1, r1, e4, y2, r2, e5, e6, hAB _ _ h8⟩
    · rw [if_neg c3]
      exact q fg J fs c sJ bJ eJ (by omega) (by omega) hc (hr' (by omega))
def ltL (a b : Tri) : Bool := HT.lexLt [a.x * b.z, a.y * b.z] [b.x * a.z, b.y * a.z]
def argL (c : Nat → Tri) : Nat → Nat
  | 0 => 0
  | n + 1 => if ltL (c n) (c (argL c n)) = true then n else argL c n
theorem argL_lt (c : Nat → Tri) : ∀ n, argL c n < n ∨ argL c n = 0
  | 0 => .inr rfl
  | n + 1 => by
    unfold argL
    split
    · exact .inl (by omega)
    · rcases argL_lt c n with h | h
      · exact .inl (by omega)
      · exact .inr h
def spHanded : Sp := fun vs H Q _ => ∃ (l : Addr) (rs : List Addr) (c : Nat → Tri), vs = [.ref l] ∧ H l = some (.lst (rs.map V.ref)) ∧ Crs H rs c ∧ 3 ≤ rs.length ∧ rs.length ≤ 8 ∧ ∀ (g : Addr) (H' : Hp) (pl : List Addr), Same H H' → H' g = some (.tup ((rot (argL c rs.length) pl).map V.ref)) → pl.length = rs.length → (∀ i, i < rs.length → PlcT H' (ad pl i) (c i)) → Q (.ref g) H'
def spLArea : Sp := fun vs H Q _ => ∃ (l : Addr) (rs : List Addr) (c : Nat → Tri), vs = [.ref l] ∧ H l = some (.lst (rs.map V.ref)) ∧ Crs H rs c ∧ 3 ≤ rs.length ∧ rs.length ≤ 8 ∧ ∀ (g : Addr) (H' : Hp), Same H H' → At2 H' g (tfan c rs.length) → Q (.ref g) H'
def spRight : Sp := fun vs H Q _ => ∃ (r e : Addr) (f : Int × Int), vs = [.ref r, .ref e] ∧ At2 H r f ∧ At2 H e f ∧ ∀ H' : Hp, Same H H' → Q (.bl true) H'
theorem lt_fit {c : Tri} (h : Cn c) : Fit c.x ∧ Fit c.y ∧ Fit c.z := ⟨h.1.fit, h.2.1.fit, h.2.2.1.fit⟩
theorem fan_bd {c : Nat → Tri} {i j k : Nat} (hi : Cn (c i)) (hj : Cn (c j)) (hk : Cn (c k)) : Bd 160 (dt (c i) (c j) (c k)) ∧ Bd 80 (2 * (c i).z * (c j).z * (c k).z) ∧ 0 < 2 * (c i).z * (c j).z * (c k).z := by
  have m : ∀ {a b c d : Int}, Bd 44 a → Bd 44 b → Bd 44 c → Bd 44 d → Bd 89 (a * b - c * d) := fun h1 h2 h3 h4 => Bd.sub (Bd.mul (n := 44) (m := 44) h1 h2) (Bd.mul (n := 44) (m := 44) h3 h4)
  obtain ⟨i1, i2, i3⟩ := hi.tb
  obtain ⟨j1, j2, j3⟩ := hj.tb
  obtain ⟨k1, k2, k3⟩ := hk.tb
  refine ⟨?_, ?_, Int.mul_pos (Int.mul_pos (by have := hi.2.2.2; omega) (by have := hj.2.2.2; omega)) (by have := hk.2.2.2; omega)⟩
  · unfold dt det3
    exact Bd.mono (n := 135) (Bd.add (n := 134) (Bd.add (n := 133) (Bd.mul (n := 89) (m := 44) (m i2 j3 i3 j2) k1) (Bd.mul (n := 89) (m := 44) (m i3 j1 i1 j3) k2)) (Bd.mono (n := 133) (Bd.mul (n := 89) (m := 44) (m i1 j2 i2 j1) k3)))
  · exact Bd.mono (n := 2 + 24 + 24 + 24) (Bd.mul (n := 2 + 24 + 24) (m := 24) (Bd.mul (n := 2 + 24) (m := 24) (Bd.mul (n := 2) (m := 24) (by unfold Bd; decide) hi.2.2.1) hj.2.2.1) hk.2.2.1)
theorem ok_handed (T : Tx K mg t1 t2) (F : At K mg "_law_handed" s__law_handed ["corners"] []) (d__law_lowest : DefOk P w K mg base CX0 2 "_law_lowest" ["top", "bottom"] [] spLow2) : DefOk P w K mg base CX0 3 "_law_handed" ["corners"] [] spHanded := by
  refine F.ok sc__law_handed (fun vs H Q E h => ?_) (fun f cdv A outer s H vs Q E hr h => ?_)
  · obtain ⟨l, rs, c, rfl, _⟩ := h
    rfl
  obtain ⟨l, rs, c, rfl, hl, hc, n3, n8, q⟩ := h
  have S := sc__law_handed
  refine ⟨_, (pss_cons (ps_setCompM (i := 1) rfl S.nd rfl rfl (N' := ["u", "v", "w"]) (ix := []) (xs0 := ["u", "v", "w"]) ⟨rfl, rfl, by decide +kernel, by decide +kernel, by decide +kernel, (show ∀ y : Str × NameKind, y ∈ _ → y.2 = NameKind.free → (defScope s__law_handed).names.lookup y.1 = some .cell ∨ (defScope s__law_handed).names.lookup y.1 = some .free from by decide +kernel), .nil⟩ (pi_list (pv 0)) (fun _ _ _ _ => pg_tupK (K := K) (n := 3) rfl rfl (pgs_cons (pg_name (i := 0) (show (["u", "v", "w"] : List Str).Nodup from by decide +kernel) rfl (Or.inl rfl)) (pgs_cons (pg_name (i := 1) (show (["u", "v", "w"] : List Str).Nodup from by decide +kernel) rfl (Or.inl rfl)) (pgs_cons (pg_name (i := 2) (show (["u", "v", "w"] : List Str).Nodup from by decide +kernel) rfl (Or.inl rfl)) pgs_nil)))) (fun _ _ _ _ => pts_nil) (fun _ _ _ _ => (pe_tup (pa_cons (pe_callD d__law_lowest (hr.mono (by decide)) rfl pass0 (pa_cons (pv 0) (pa_cons (pv 2) pa_nil se_nam) se_nam)) (pa_cons (pe_callD d__law_lowest (hr.mono (by decide)) rfl pass0 (pa_cons (pv 1) (pa_cons (pv 2) pa_nil se_nam) se_nam)) pa_nil se_cal) se_cal))))
    (pss_cons (ps_set (i := 2) S.nd rfl (Or.inl rfl) pe_int)
    (pss_cons (ps_for PassesOwn.never rfl (pi_range1 rfl T.m_range (pa_cons (pe_callB call_len_seq rfl T.m_len PySem.boot_len (pa_cons (pv 0) pa_nil se_nam)) pa_nil se_cal)) (pg_name (i := 3) S.nd rfl (Or.inl rfl))
    (pss_cons (ps_asg (pe_ix ix_list (pv 0) (pv 3) (fun _ _ => rfl)) (pg_tup rfl (pgs_cons (pg_name (i := 4) S.nd rfl (Or.inl rfl)) (pgs_cons (pg_name (i := 5) S.nd rfl (Or.inl rfl)) (pgs_cons (pg_name (i := 6) S.nd rfl (Or.inl rfl)) pgs_nil)))))
    (pss_one (ps_if (pt_cmpR (op_ltT (Nat.lt_of_le_of_lt (Nat.le_add_right _ 64) (un64 hr))) (pe_tup (pa_cons (pe_op op_mulB (pv 4) (pe_ix ix_tup (pe_ix ix_list (pv 0) (pv 2) (fun _ _ => rfl)) pe_int (fun _ _ => rfl))) (pa_cons (pe_op op_mulB (pv 5) (pe_ix ix_tup (pe_ix ix_list (pv 0) (pv 2) (fun _ _ => rfl)) pe_int (fun _ _ => rfl))) pa_nil se_bin) se_bin)) (pe_tup (pa_cons (pe_op op_mulB (pe_ix ix_tup (pe_ix ix_list (pv 0) (pv 2) (fun _ _ => rfl)) pe_int (fun _ _ => rfl)) (pv 6)) (pa_cons (pe_op op_mulB (pe_ix ix_tup (pe_ix ix_list (pv 0) (pv 2) (fun _ _ => rfl)) pe_int (fun _ _ => rfl)) (pv 6)) pa_nil se_bin) se_bin)) (nomark _))
    (pss_one (ps_set (i := 2) S.nd rfl (Or.inl rfl) (pv 3)))
    pss_nil))))
    (pss_one (ps_ret (pe_callTy call_tuple_of rfl T.m_tuple boot_tuple (pa_cons (pe_op op_cat (pe_slice sl_list (pv 1) (po_some (pv 2)) po_none) (pe_slice sl_list (pv 1) po_none (po_some (pv 2)))) pa_nil se_bin))))))), ?_⟩
  have kl : SqL K H l (rs.map V.ref) := SqL.of hl
  have lm : (rs.map V.ref).length = rs.length := List.length_map _
  walk_at "rf"
  refine ⟨⟨_, kl⟩, fun acc hacc => ?_⟩
  refine compLM (zs := rs.map V.ref) (fun i y H' => ∃ r : Addr, y = .ref r ∧ PlcT H' r (c i)) (fun i y J J' ⟨r, h1, h2⟩ st => ⟨r, h1, h2.keep st⟩) (by omega) hacc kl ?_ ?_ ?_
  · intro i z v0 J R hi l0 sJ hR
    have hil : i < rs.length := by have := (List.getElem?_eq_some_iff.mp hi).1; omega
    rw [ad_get hil] at hi
    cases hi
    have k1 : SqT K J (ad rs i) [.int (c i).x, .int (c i).y, .int (c i).z] := SqT.of (sJ _ _ (hc.at_ i hil))
    have zp : 0 < (c i).z := by have := (hc.cn i hil).2.2.2; omega
    have fz := (lt_fit (hc.cn i hil)).2.2
    match v0, l0 with
    | [y1, y2, y3], _ =>
      walk_at "rf"
      refine ⟨_, k1, rfl, _, _, rfl, _, _, rfl, _, _, rfl, rfl, ⟨[_, _, _], rfl, rfl⟩, ?_⟩
      refine ⟨_, _, rfl, zp, fz, fun g1 J1 s1 h1 => ?_⟩
      try walk_at "rf"
      refine ⟨_, _, rfl, zp, fz, fun g2 J2 s2 h2 => ?_⟩
      try walk_at "rf"
      refine ⟨by decide, fun p hp => hR _ _ (s1.trans (s2.trans (Same.new hp _))) ⟨p, rfl, g1, g2, upd_same, ((s2.trans (Same.new hp _)) _ _ h1), (Same.new hp _) _ _ h2⟩⟩
  · intro ys H1 s1 e1 l1 p1
    obtain ⟨pl, rfl⟩ : ∃ pl : List Addr, ys = pl.map V.ref := refs_of fun i y hy => let ⟨r, h1, _⟩ := p1 i y hy; ⟨r, h1⟩
    have lpl : pl.length = rs.length := by rw [← lm, ← l1, List.length_map]
    have hpl : ∀ i, i < rs.length → PlcT H1 (ad pl i) (c i) := fun i hi => by
      obtain ⟨r, h1, h2⟩ := p1 i _ (ad_get (show i < pl.length by omega))
      cases h1
      exact h2
    try walk_at "rf"
    have kl1 := s1.seq kl
    have hc1 := hc.keep s1.t
    refine ⟨_, .inl kl1, by omega, by omega, for_range (lo := 0) (n := _) (fun i σ J => Same H1 J ∧ ∃ o3 o4 o5 o6 : Option V, σ = [some (.ref l), some (.ref acc), some (.int (argL c i : Nat)), o3, o4, o5, o6]) ⟨Same.refl _, none, none, none, none, rfl⟩ ?_ ?_⟩
    · rintro i σ J hi ⟨sJ, o3, o4, o5, o6, rfl⟩
      have hil : i < rs.length := by omega
      have al : argL c i < rs.length := by rcases argL_lt c i with h | h <;> omega
      have kJ := sJ.seq kl1
      have hcJ := hc1.keep sJ.t
      have k1 : SqT K J (ad rs i) [.int (c i).x, .int (c i).y, .int (c i).z] := SqT.of (hcJ.at_ i hil)
      have k2 : SqT K J (ad rs (argL c i)) [.int (c (argL c i)).x, .int (c (argL c i)).y, .int (c (argL c i)).z] := SqT.of (hcJ.at_ _ al)
      have gi : atI (rs.map V.ref) (0 + (i : Int)) = some (.ref (ad rs i)) := by rw [Int.zero_add]; exact atI_nat (ad_get hil)
      have ga : atI (rs.map V.ref) ((argL c i : Nat) : Int) = some (.ref (ad rs (argL c i))) := atI_nat (ad_get al)
      obtain ⟨f1, f2, f3⟩ := lt_fit (hc.cn i hil)
      obtain ⟨h1, h2, h3⟩ := lt_fit (hc.cn _ al)
      walk_at "rf"
      refine ixL kJ gi ⟨_, rfl, _, k1, rfl, _, _, rfl, _, _, rfl, _, _, rfl, rfl, ?_⟩
      refine ixL kJ ga (ixT k2 (i := 2) rfl ⟨_, rfl, _, rfl, f1, h3, ?_⟩)
      refine ixL kJ ga (ixT k2 (i := 2) rfl ⟨_, rfl, _, rfl, f2, h3, by decide, fun q1 hq1 => ?_⟩)
      have u1 := Same.new hq1 (.tup [.int ((c i).x * (c (argL c i)).z), .int ((c i).y * (c (argL c i)).z)])
      have w1 : upd J q1 (.tup [.int ((c i).x * (c (argL c i)).z), .int ((c i).y * (c (argL c i)).z)]) q1 = some (.tup ([(c i).x * (c (argL c i)).z, (c i).y * (c (argL c i)).z].map V.int)) := upd_same
      generalize upd J q1 (.tup [.int ((c i).x * (c (argL c i)).z), .int ((c i).y * (c (argL c i)).z)]) = J1 at u1 w1 ⊢
      refine ixL (u1.seq kJ) ga (ixT (u1.tup k2) (i := 0) rfl ⟨_, rfl, _, rfl, h1, f3, ?_⟩)
      refine ixL (u1.seq kJ) ga (ixT (u1.tup k2) (i := 1) rfl ⟨_, rfl, _, rfl, h2, f3, by decide, fun q2 hq2 => ?_⟩)
      have u2 := Same.new hq2 (.tup [.int ((c (argL c i)).x * (c i).z), .int ((c (argL c i)).y * (c i).z)])
      have w2 : upd J1 q2 (.tup [.int ((c (argL c i)).x * (c i).z), .int ((c (argL c i)).y * (c i).z)]) q2 = some (.tup ([(c (argL c i)).x * (c i).z, (c (argL c i)).y * (c i).z].map V.int)) := upd_same
      generalize upd J1 q2 (.tup [.int ((c (argL c i)).x * (c i).z), .int ((c (argL c i)).y * (c i).z)]) = J2 at u2 w2 ⊢
      refine ⟨q1, q2, _, _, rfl, rfl, SqT.of (u2 _ _ w1), SqT.of w2, ?_⟩
      have sJ2 := sJ.trans (u1.trans u2)
      have ea : argL c (i + 1) = if HT.lexLt [(c i).x * (c (argL c i)).z, (c i).y * (c (argL c i)).z] [(c (argL c i)).x * (c i).z, (c (argL c i)).y * (c i).z] = true then i else argL c i := rfl
      refine ⟨_, rfl, ?_⟩
      cases hb : HT.lexLt [(c i).x * (c (argL c i)).z, (c i).y * (c (argL c i)).z] [(c (argL c i)).x * (c i).z, (c (argL c i)).y * (c i).z] with
      | true =>
        rw [hb, if_pos rfl] at ea
        rw [if_pos rfl, ea]
        exact ⟨sJ2, Int.zero_add _, _, rfl⟩
      | false =>
        rw [hb, if_neg (by decide)] at ea
        rw [if_neg (by decide), ea]
        exact ⟨sJ2, rfl, _, rfl⟩
    · rintro σ J ⟨sJ, o3, o4, o5, o6, rfl⟩
      have en : (((rs.map V.ref).length : Int)).toNat = rs.length := by omega
      rw [en]
      have eJ := sJ _ _ e1
      walk_at "rf"
      refine ⟨acc, _, rfl, SqL.of eJ, fun a1 h1 => ?_⟩
      rw [cut_drop]
      have u1 := Same.new h1 (.lst ((pl.map V.ref).drop (argL c rs.length)))
      have w1 : upd J a1 (.lst ((pl.map V.ref).drop (argL c rs.length))) a1 = some (.lst ((pl.map V.ref).drop (argL c rs.length))) := upd_same
      generalize upd J a1 (.lst ((pl.map V.ref).drop (argL c rs.length))) = J1 at u1 w1 ⊢
      refine ⟨acc, _, rfl, SqL.of (u1 _ _ eJ), fun a3 h3 => ?_⟩
      rw [cut_take]
      have u3 := Same.new h3 (.lst ((pl.map V.ref).take (argL c rs.length)))
      have w3 : upd J1 a3 (.lst ((pl.map V.ref).take (argL c rs.length))) a3 = some (.lst ((pl.map V.ref).take (argL c rs.length))) := upd_same
      generalize upd J1 a3 (.lst ((pl.map V.ref).take (argL c rs.length))) = J3 at u3 w3 ⊢
      refine ⟨a1, a3, _, _, rfl, rfl, u3 _ _ w1, w3, ?_, fun a5 h5 => ?_⟩
      · rw [List.length_drop, List.length_take, List.length_map]
        exact Nat.le_trans (show _ ≤ 1000 by omega) (by decide)
      have er : (pl.map V.ref).drop (argL c rs.length) ++ (pl.map V.ref).take (argL c rs.length) = (rot (argL c rs.length) pl).map V.ref := by
        unfold rot
        rw [List.map_append, List.map_drop, List.map_take]
      rw [er]
      have u5 := Same.new h5 (.lst ((rot (argL c rs.length) pl).map V.ref))
      have w5 : upd J3 a5 (.lst ((rot (argL c rs.length) pl).map V.ref)) a5 = some (.lst ((rot (argL c rs.length) pl).map V.ref)) := upd_same
      generalize upd J3 a5 (.lst ((rot (argL c rs.length) pl).map V.ref)) = J5 at u5 w5 ⊢
      refine ⟨a5, rfl, _, .inl ⟨SqL.of w5, fun a6 h6 => ?_⟩⟩
      have s16 := sJ.trans (u1.trans (u3.trans (u5.trans (Same.new h6 (.tup ((rot (argL c rs.length) pl).map V.ref))))))
      exact q a6 _ pl (s1.trans s16) upd_same lpl fun i hi => (hpl i hi).keep s16.t
  · intro z σ J A B hAB h
    obtain ⟨a, xs, e1, e2, e3, v1, r1, e4, v2, r2, e5, v3, r3, e6, e7, h8⟩ := h
    exact ⟨a, xs, e1, e2, e3, v1, r1, e4, v2, r2, e5, v3, r3, e6, e7, hAB _ _ h8⟩
theorem ok_larea (T : Tx K mg t1 t2) (F : At K mg "_law_area" s__law_area ["corners"] []) (d__law_left : DefOk P w K mg base CX0 2 "_law_left" ["one", "other", "third"] [] spLeft2) (d__law_lowest : DefOk P w K mg base CX0 2 "_law_lowest" ["top", "bottom"] [] spLow2) (d__law_plus : DefOk P w K mg base CX0 3 "_law_plus" ["one", "other"] [] spPlus2) : DefOk P w K mg base CX0 4 "_law_area" ["corners"] [] spLArea := by
  refine F.ok sc__law_area (fun vs H Q E h => ?_) (fun f cdv A outer s H vs Q E hr h => ?_)
  · obtain ⟨l, rs, c, rfl, _⟩ := h
    rfl
  obtain ⟨l, rs, c, rfl, hl, hc, n3, n8, q⟩ := h
  have S := sc__law_area
  refine ⟨_, (pss_cons (ps_set (i := 1) S.nd rfl (Or.inl rfl) (pe_tup (pa_cons pe_int (pa_cons pe_int pa_nil se_con) se_con)))
    (pss_cons (ps_for PassesOwn.never rfl (pi_range2 rfl T.m_range (pa_cons pe_int (pa_cons (pe_op op_sub (pe_callB call_len_seq rfl T.m_len PySem.boot_len (pa_cons (pv 0) pa_nil se_nam)) pe_int) pa_nil se_bin) se_con)) (pg_name (i := 2) S.nd rfl (Or.inl rfl))
    (pss_cons (ps_set (i := 3) S.nd rfl (Or.inl rfl) (pe_op op_mulB (pe_op op_mulB (pe_op op_mulB pe_int (pe_ix ix_tup (pe_ix ix_list (pv 0) pe_int (fun _ _ => rfl)) pe_int (fun _ _ => rfl))) (pe_ix ix_tup (pe_ix ix_list (pv 0) (pv 2) (fun _ _ => rfl)) pe_int (fun _ _ => rfl))) (pe_ix ix_tup (pe_ix ix_list (pv 0) (pe_op op_add (pv 2) pe_int) (fun _ _ => rfl)) pe_int (fun _ _ => rfl))))
    (pss_one (ps_set (i := 1) S.nd rfl (Or.inl rfl) (pe_callD d__law_plus (hr.mono (by decide)) rfl pass0 (pa_cons (pv 1) (pa_cons (pe_callD d__law_lowest (hr.mono (by decide)) rfl pass0 (pa_cons (pe_callD d__law_left (hr.mono (by decide)) rfl pass0 (pa_cons (pe_ix ix_list (pv 0) pe_int (fun _ _ => rfl)) (pa_cons (pe_ix ix_list (pv 0) (pv 2) (fun _ _ => rfl)) (pa_cons (pe_ix ix_list (pv 0) (pe_op op_add (pv 2) pe_int) (fun _ _ => rfl)) pa_nil se_sub) se_sub) se_sub)) (pa_cons (pv 3) pa_nil se_nam) se_cal)) pa_nil se_cal) se_nam))))))
    (pss_one (ps_ret (pv 1))))), ?_⟩
  have kl : SqL K H l (rs.map V.ref) := SqL.of hl
  have lm : (rs.map V.ref).length = rs.length := List.length_map _
  walk_at "rf"
  refine ⟨by decide, fun f0 hf0 => ?_⟩
  have s0 := Same.new hf0 (.tup [.int 0, .int 1])
  have e0 : upd H f0 (.tup [.int 0, .int 1]) f0 = some (.tup [.int 0, .int 1]) := upd_same
  generalize upd H f0 (.tup [.int 0, .int 1]) = H0 at s0 e0 ⊢
  refine ⟨_, .inl (s0.seq kl), by decide, by decide, by omega, by omega, for_range (lo := 1) (n := _) (fun i σ J => Same H J ∧ ∃ (g : Addr) (o2 o3 : Option V), σ = [some (.ref l), some (.ref g), o2, o3] ∧ At2 J g (tot ((List.range i).map fun i => nf (dt (c 0) (c (i + 1)) (c (i + 2))) (2 * (c 0).z * (c (i + 1)).z * (c (i + 2)).z)))) ⟨s0, f0, none, none, rfl, e0⟩ ?_ ?_⟩
  · rintro i σ J hi ⟨sJ, g, o2, o3, rfl, hg⟩
    have hil : i + 2 < rs.length := by omega
    have kJ := sJ.seq kl
    walk_at "rf"
    have hcJ := hc.keep sJ.t
    have z0 := hc.cn 0 (by omega)
    have z1 := hc.cn (i + 1) (by omega)
    have z2 := hc.cn (i + 2) (by omega)
    have k0 : SqT K J (ad rs 0) [.int (c 0).x, .int (c 0).y, .int (c 0).z] := SqT.of (hcJ.at_ 0 (by omega))
    have k1 : SqT K J (ad rs (i + 1)) [.int (c (i + 1)).x, .int (c (i + 1)).y, .int (c (i + 1)).z] := SqT.of (hcJ.at_ _ (by omega))
    have k2 : SqT K J (ad rs (i + 2)) [.int (c (i + 2)).x, .int (c (i + 2)).y, .int (c (i + 2)).z] := SqT.of (hcJ.at_ _ (by omega))
    have g0 : atI (rs.map V.ref) 0 = some (.ref (ad rs 0)) := atI_nat (j := 0) (ad_get (by omega))
    have g1 : atI (rs.map V.ref) (1 + (i : Int)) = some (.ref (ad rs (i + 1))) := by
      rw [show (1 + (i : Int)) = ((i + 1 : Nat) : Int) by omega]
      exact atI_nat (ad_get (by omega))
    have g2 : atI (rs.map V.ref) (1 + (i : Int) + 1) = some (.ref (ad rs (i + 2))) := by
      rw [show (1 + (i : Int) + 1) = ((i + 2 : Nat) : Int) by omega]
      exact atI_nat (ad_get (by omega))
    obtain ⟨dB, bB, bp⟩ := fan_bd z0 z1 z2
    have b20 : Bd 26 (2 * (c 0).z) := Bd.mul (n := 2) (m := 24) (by unfold Bd; decide) z0.2.2.1
    have b21 : Bd 50 (2 * (c 0).z * (c (i + 1)).z) := Bd.mul (n := 26) (m := 24) b20 z1.2.2.1
    refine ixL kJ g0 (ixT k0 (i := 2) rfl ⟨_, rfl, Bd.fit (n := 3) (by unfold Bd; decide), z0.2.2.1.fit, ?_⟩)
    refine ixL kJ g1 (ixT k1 (i := 2) rfl ⟨_, rfl, b20.fit, z1.2.2.1.fit, ?_⟩)
    refine ixL kJ g2 (ixT k2 (i := 2) rfl ⟨_, rfl, b21.fit, z2.2.2.1.fit, ?_⟩)
    refine ixL kJ g0 (ixL kJ g1 (ixL kJ g2 ?_))
    refine ⟨_, _, _, _, _, _, rfl, hcJ.at_ 0 (by omega), hcJ.at_ (i + 1) (by omega), hcJ.at_ (i + 2) (by omega), z0.tb, z1.tb, z2.tb, fun J1 s1 => ?_⟩
    refine ⟨_, _, rfl, bp, bB.fit, fun h1 J2 s2 e2 => ?_⟩
    have s12 := s1.trans s2
    obtain ⟨a1, _, _, a4, a5⟩ := nf_facts (t := dt (c 0) (c (i + 1)) (c (i + 2))) (b := 2 * (c 0).z * (c (i + 1)).z * (c (i + 2)).z) (by omega)
    obtain ⟨t1', t2', t3'⟩ := tot_bd i ((List.range i).map fun i => nf (dt (c 0) (c (i + 1)) (c (i + 2))) (2 * (c 0).z * (c (i + 1)).z * (c (i + 2)).z)) (by rw [List.length_map, List.length_range]) (fun f hf => by
      obtain ⟨j, hj, rfl⟩ := List.mem_map.mp hf
      have hj := List.mem_range.mp hj
      obtain ⟨dB, bB, bp⟩ := fan_bd z0 (hc.cn (j + 1) (by omega)) (hc.cn (j + 2) (by omega))
      obtain ⟨a1, _, _, a4, a5⟩ := nf_facts (t := dt (c 0) (c (j + 1)) (c (j + 2))) (b := 2 * (c 0).z * (c (j + 1)).z * (c (j + 2)).z) (by omega)
      exact ⟨Bd.mono (bd_le a4 dB), Bd.mono (bd_le a5 bB), a1⟩)
    refine ⟨g, h1, _, _, rfl, s12 _ _ hg, e2, Bd.mono t1' (by omega), Bd.mono t2' (by omega), Bd.mono (bd_le a4 dB), Bd.mono (bd_le a5 bB), t3', a1, fun g' J3 s3 e3 => ?_⟩
    refine ⟨sJ.trans (s12.trans s3), g', rfl, ?_⟩
    rw [List.range_succ, List.map_append]
    show At2 J3 g' (tot (_ ++ [_]))
    rw [tot_snoc]
    exact e3
  · rintro σ J ⟨sJ, g, o2, o3, rfl, hg⟩
    walk_at "rf"
    refine q g J sJ ?_
    have e : (((rs.map V.ref).length : Int) - 1 - 1).toNat = rs.length - 2 := by omega
    rw [e] at hg
    exact hg
/-- a place's own data -/
def plD (c : Tri) : PyData := .tuple [.tuple [.int (nf c.x c.z).1, .int (nf c.x c.z).2], .tuple [.int (nf c.y c.z).1, .int (nf c.y c.z).2]]
theorem rds_of {H : Hp} : ∀ (xs : List V) (ds : List PyData), xs.length = ds.length → (∀ (i : Nat) (x : V) (d : PyData), xs[i]? = some x → ds[i]? = some d → Rds K H x d) → RdsAll K H xs ds
  | [], [], _, _ => .nil
  | x :: xs, d :: ds, hl, h => .cons (h 0 x d rfl rfl) (rds_of xs ds (by simpa using hl) fun i x d h1 h2 => h (i + 1) x d h1 h2)
theorem plcT_rds {H : Hp} {r : Addr} {c : Tri} (h : PlcT H r c) : Rds K H (.ref r) (plD c) := by
  obtain ⟨a, b, h1, h2, h3⟩ := h
  exact .tup (SqT.of h1) (.cons (.tup (SqT.of h2) (.cons (.int _) (.cons (.int _) .nil))) (.cons (.tup (SqT.of h3) (.cons (.int _) (.cons (.int _) .nil))) .nil))
theorem plD_lay : ∀ cs : List Tri, PyData.canLayAll0 (cs.map plD) = true ∧ PyData.depthAll (cs.map plD) ≤ 2 ∧ PyData.eqvAll (cs.map plD) (cs.map plD) = true
  | [] => by simp [PyData.canLayAll0, PyData.depthAll, PyData.eqvAll]
  | c :: cs => by
    obtain ⟨h1, h2, h3⟩ := plD_lay cs
    refine ⟨?_, ?_, ?_⟩
    · simp [PyData.canLayAll0, plD, PyData.canLay0, h1]
    · simp [PyData.depthAll, plD, PyData.depth]
      omega
    · simp [PyData.eqvAll, plD, PyData.eqv, h3]
theorem neT_plc {H : Hp} {g e : Addr} {rs rs' : List Addr} {cs : List Tri} {Q : VK} (hg : H g = some (.tup (rs.map V.ref))) (he : H e = some (.tup (rs'.map V.ref))) (l1 : rs.length = cs.length) (l2 : rs'.length = cs.length) (h1 : ∀ (i : Nat) (c : Tri), cs[i]? = some c → PlcT H (ad rs i) c) (h2 : ∀ (i : Nat) (c : Tri), cs[i]? = some c → PlcT H (ad rs' i) c) (q : Q (.bl false) H) : rEqD K true (.ref g) (.ref e) H Q := by
  obtain ⟨a1, a2, a3⟩ := plD_lay cs
  have rd : ∀ {r : List Addr}, r.length = cs.length → (∀ (i : Nat) (c : Tri), cs[i]? = some c → PlcT H (ad r i) c) → RdsAll K H (r.map V.ref) (cs.map plD) := fun {r} hl h => rds_of _ _ (by rw [List.length_map, List.length_map, hl]) fun i x d hx hd => by
    rw [List.getElem?_map] at hd
    cases ec : cs[i]? with
    | none => rw [ec] at hd; cases hd
    | some c =>
      rw [ec] at hd
      cases hd
      have hi : i < r.length := by have := (List.getElem?_eq_some_iff.mp ec).1; omega
      rw [ad_get hi] at hx
      cases hx
      exact plcT_rds (h i c ec)
  have sh : SeqAt.shaped (.tuple (cs.map plD)) = true := by
    show (PyData.canLay0 (.tuple (cs.map plD)) && decide ((PyData.tuple (cs.map plD)).depth ≤ 64)) = true
    have e1 : PyData.canLay0 (.tuple (cs.map plD)) = true := by simp [PyData.canLay0, a1]
    have e2 : (PyData.tuple (cs.map plD)).depth ≤ 64 := by
      simp [PyData.depth]
      omega
    rw [e1, decide_eq_true e2]
    rfl
  refine ⟨.tuple (cs.map plD), .tuple (cs.map plD), .tup (SqT.of hg) (rd l1 h1), .tup (SqT.of he) (rd l2 h2), sh, sh, ?_⟩
  have e : PyData.eqv (.tuple (cs.map plD)) (.tuple (cs.map plD)) = true := by simp [PyData.eqv, a3]
  rw [e]
  exact q
theorem ok_whole (T : Tx K mg t1 t2) (F : At K mg "_law_is_whole" s__law_is_whole ["thing"] []) : DefOk P w K mg base CX0 1 "_law_is_whole" ["thing"] [] spWhole := by
  refine F.ok sc__law_is_whole (fun vs H Q E h => ?_) (fun f cdv A outer s H vs Q E hr h => ?_)
  · obtain ⟨a, rfl, _⟩ := h
    rfl
  obtain ⟨n, rfl, q⟩ := h
  have S := sc__law_is_whole
  refine ⟨_, (pss_one (ps_ret (pe_and (pe_callB call_isinst rfl T.m_isinstance boot_isinstance (pa_cons (pv 0) (pa_cons (pe_bltn (v := .ty "int") rfl T.m_int boot_int rfl) pa_nil se_nam) se_nam)) (pe_one (pe_not (pe_callB call_isinst rfl T.m_isinstance boot_isinstance (pa_cons (pv 0) (pa_cons (pe_bltn (v := .ty "bool") rfl T.m_bool boot_bool rfl) pa_nil se_nam) se_nam))))))), ?_⟩
  walk_at "rd"
  exact ⟨_, .int n, _, rfl, iteT ⟨_, .int n, _, rfl, q⟩⟩
theorem ok_right (T : Tx K mg t1 t2) (F : At K mg "_law_right" s__law_right ["found", "due"] []) (d__law_is_whole : DefOk P w K mg base CX0 1 "_law_is_whole" ["thing"] [] spWhole) : DefOk P w K mg base CX0 2 "_law_right" ["found", "due"] [] spRight := by
  refine F.ok sc__law_right (fun vs H Q E h => ?_) (fun f cdv A outer s H vs Q E hr h => ?_)
  · obtain ⟨r, e, f', rfl, _⟩ := h
    rfl
  obtain ⟨r, e, f', rfl, h1, h2, q⟩ := h
  have S := sc__law_right
  refine ⟨_, (pss_cons (ps_if (PW.pt (pw_or (pt_not (pt_val (pe_callB call_isinst rfl T.m_isinstance boot_isinstance (pa_cons (pv 0) (pa_cons (pe_bltn (v := .ty "tuple") rfl T.m_tuple boot_tuple rfl) pa_nil se_nam) se_nam)))) (pw_or (pt_cmpR op_ne (pe_callB call_len_seq rfl T.m_len PySem.boot_len (pa_cons (pv 0) pa_nil se_nam)) pe_int (nomark _)) (pw_or1 (pt_not (pt_val (pe_callB (call_all_bools rfl) rfl T.m_all boot_all (pa_cons (pe_comp rfl (N' := ["one"]) (ix := []) ⟨rfl, rfl, by decide +kernel, by decide +kernel, rfl, by decide +kernel, (show ∀ y : Str × NameKind, y ∈ _ → y.2 = NameKind.free → (defScope s__law_right).names.lookup y.1 = some .cell ∨ (defScope s__law_right).names.lookup y.1 = some .free from by decide +kernel), .nil⟩ (pi_tup (pv 0)) (fun _ _ _ _ => pg_name (i := 0) (show (["one"] : List Str).Nodup from by decide +kernel) rfl (Or.inl rfl)) (fun _ _ _ _ => pts_nil) (fun _ _ _ _ => (pe_callD d__law_is_whole (hr.mono (by decide)) rfl pass0 (pa_cons (pv 0) pa_nil se_nam)))) pa_nil se_cmp))))))))
    (pss_one (ps_ret pe_bl))
    pss_nil)
    (pss_one (ps_ret (pe_cmpR (op_eqD (un64 hr)) (pv 0) (pv 1) (nomark _))))), ?_⟩
  have k1 : SqT K H r ([f'.1, f'.2].map V.int) := SqT.of h1
  have k2 : SqT K H e ([f'.1, f'.2].map V.int) := SqT.of h2
  walk_at "rf"
  refine ⟨_, .tup h1, _, rfl, ?_⟩
  rw [if_neg (by decide)]
  refine ⟨_, .inr k1, ?_⟩
  rw [if_pos (show ((([f'.1, f'.2].map V.int).length : Nat) : Int) = 2 from rfl)]
  refine ⟨⟨_, k1⟩, fun acc hacc => ?_⟩
  refine compT (fun _ => .bl true) (by rw [List.length_map]; show 2 < 1000; decide) hacc k1 ?_ ?_
  · intro z J2 R hz j2 hR
    obtain ⟨n, hn, rfl⟩ := List.mem_map.mp hz
    walk_at "rf"
    exact ⟨n, rfl, hR _ (Same.refl _)⟩
  intro J2 j2 e2
  refine ⟨[true, true], SqL.of e2, ?_⟩
  rw [if_neg (by decide)]
  refine eqT_ints (x := [f'.1, f'.2]) (y := [f'.1, f'.2]) (j2.tup k1) (j2.tup k2) ?_
  rw [decide_eq_true rfl]
  exact q _ j2
theorem ok_cells (T : Tx K mg t1 t2) (F : At K mg "_law_cells" s__law_cells ["script", "many"] []) : DefOk P w K mg base CX0 1 "_law_cells" ["script", "many"] [] (spCells K) := by
  refine F.ok sc__law_cells (fun vs H Q E h => ?_) (fun f cdv A outer s H vs Q E hr h => ?_)
  · obtain ⟨a, ns, m, rfl, _⟩ := h
    rfl
  obtain ⟨a, ns, m, rfl, hS, h63, m1, m8, q⟩ := h
  have S := sc__law_cells
  refine ⟨_, (pss_cons (ps_set (i := 2) S.nd rfl (Or.inl rfl) (pe_callTy call_list_of rfl T.m_list boot_list (pa_cons (pe_slice sl_list (pv 0) po_none (po_some (pv 1))) pa_nil se_sub)))
    (pss_cons (ps_for PassesOwn.never rfl (pi_enum rfl T.m_enumerate (pa_cons (pe_slice sl_list (pv 0) (po_some (pv 1)) (po_some pe_int)) pa_nil se_sub)) (pg_tup rfl (pgs_cons (pg_name (i := 3) S.nd rfl (Or.inl rfl)) (pgs_cons (pg_name (i := 4) S.nd rfl (Or.inl rfl)) pgs_nil)))
    (pss_one (ps_asg (pe_op op_add (pe_op op_mul (pe_ix ix_list (pv 2) (pe_op op_mod (pv 3) (pv 1)) (fun _ _ => rfl)) pe_int) (pv 4)) (pg_sub (pv 2) (pe_op op_mod (pv 3) (pv 1)) set_list))))
    (pss_one (ps_ret (pv 2))))), ?_⟩
  have el : (ns.map V.int).length = ns.length := List.length_map _
  walk_at "rf"
  refine ⟨a, _, rfl, hS, fun p1 hp1 => ?_⟩
  rw [cut_take, ← List.map_take]
  have s1 := Same.new hp1 (.lst ((ns.take m).map V.int))
  have e1 : upd H p1 (.lst ((ns.take m).map V.int)) p1 = some (.lst ((ns.take m).map V.int)) := upd_same
  generalize upd H p1 (.lst ((ns.take m).map V.int)) = H1 at s1 e1 ⊢
  refine ⟨p1, rfl, _, .inl (SqL.of e1), fun p hp => ?_⟩
  have s2 := Same.new hp (.lst ((ns.take m).map V.int))
  have e2 : upd H1 p (.lst ((ns.take m).map V.int)) p = some (.lst ((ns.take m).map V.int)) := upd_same
  generalize upd H1 p (.lst ((ns.take m).map V.int)) = H2 at s2 e2 ⊢
  have np : H p = none := Same.noneN s1 hp
  refine ⟨a, _, rfl, (s1.trans s2).seq hS, fun p3 hp3 => ?_⟩
  have sub : ∀ x ∈ cutV (ns.map V.int) (some (m : Int)) (some 63), x ∈ ns.map V.int := fun x hx => by
    unfold cutV at hx
    exact List.mem_of_mem_drop (List.mem_of_mem_take hx)
  have len : ∀ i, i < (cutV (ns.map V.int) (some (m : Int)) (some 63)).length → m < ns.length := fun i hi => by
    unfold cutV at hi
    rw [List.length_take, List.length_drop, HT.sIx_nat, el] at hi
    omega
  generalize cutV (ns.map V.int) (some (m : Int)) (some 63) = xs at sub len ⊢
  have s3 := Same.new hp3 (.lst xs)
  have e3 : upd H2 p3 (.lst xs) p3 = some (.lst xs) := upd_same
  have n3 : p3 ≠ p := Ne.symm (ne_of_none e2 hp3)
  generalize upd H2 p3 (.lst xs) = H3 at s3 e3 ⊢
  refine ⟨p3, rfl, ⟨_, SqL.of e3⟩, for_enum (K := K) (a := p3) (xs := xs) (fun i σ J => SameB p H3 J ∧ ∃ (ms : List Int) (o3 o4 : Option V), σ = [some (.ref a), some (.int (m : Int)), some (.ref p), o3, o4] ∧ J p = some (.lst (ms.map V.int)) ∧ ms.length = min m ns.length) ⟨SameB.refl _ _, _, none, none, rfl, s3 _ _ e2, by rw [List.length_take]⟩ (fun i σ J _ ⟨h, _⟩ => SqL.of (h _ _ n3 e3)) ?_ ?_⟩
  · rintro i x σ J T' hx ⟨sJ, ms, o3, o4, rfl, eJ, lms⟩ hT
    have hil := (List.getElem?_eq_some_iff.mp hx).1
    have hml := len i hil
    obtain ⟨n, hn, rfl⟩ := List.mem_map.mp (sub x (List.mem_of_getElem? hx))
    have nT : p ≠ T' := ne_of_none eJ hT
    have uT := Same.new hT (.tup [.int (i : Int), .int n])
    have eT : upd J T' (.tup [.int (i : Int), .int n]) T' = some (.tup [.int (i : Int), .int n]) := upd_same
    generalize upd J T' (.tup [.int (i : Int), .int n]) = J1 at uT eT ⊢
    have kT : SqT K J1 T' [.int (i : Int), .int n] := SqT.of eT
    have kp : SqL K J1 p (ms.map V.int) := SqL.of (uT _ _ eJ)
    have m0 := Int.emod_nonneg (i : Int) (show (m : Int) ≠ 0 by omega)
    have m1' := Int.emod_lt_of_pos (i : Int) (show (0 : Int) < m by omega)
    obtain ⟨j, ej⟩ := Int.eq_ofNat_of_zero_le m0
    have hj : j < ms.length := by omega
    have g1 : atI (ms.map V.int) (j : Int) = some (.int ms[j]) := atI_nat (by rw [List.getElem?_map, List.getElem?_eq_getElem hj]; rfl)
    walk_at "rf"
    refine ⟨_, kT, rfl, _, _, rfl, _, _, rfl, rfl, ?_⟩
    refine ⟨_, rfl, by omega, ?_⟩
    rw [ej]
    refine ixL kp g1 ⟨_, rfl, .inr ⟨by decide, by decide⟩, _, rfl, ?_⟩
    have nx : ixN (ms.map V.int).length ((i : Int) % m) = some j := by
      rw [ej, List.length_map]
      unfold ixN
      rw [if_pos (by omega), if_pos (by omega)]
      simp
    unfold gSub
    walk_at "rf"
    have fin : SameB p H3 (upd J1 p (.lst ((ms.map V.int).set j (.int (ms[j] * 31 + n))))) := (sJ.trans uT.b).trans SameB.set
    have lf : (ms.set j (ms[j] * 31 + n)).length = min m ns.length := by rw [List.length_set]; exact lms
    have ef : upd J1 p (.lst ((ms.map V.int).set j (.int (ms[j] * 31 + n)))) p = some (.lst ((ms.set j (ms[j] * 31 + n)).map V.int)) := by
      rw [List.map_set]
      exact upd_same
    exact ⟨by omega, p, _, _, j, rfl, rfl, uT _ _ eJ, nx, fin, ms.set j (ms[j] * 31 + n), ef, lf⟩
  · rintro σ J ⟨sJ, ms, o3, o4, rfl, eJ, lms⟩
    walk_at "rf"
    exact q p J ms (SameB.fresh (s1.trans (s2.trans s3)) np sJ) eJ (by omega)
theorem tri_pos {C : Nat → Int} {c : Nat → Tri} {W : Int} {i j k : Nat} (W0 : 0 < W) (hi : C i * (c i).z = W) (hj : C j * (c j).z = W) (hk : C k * (c k).z = W) (zi : 1 ≤ (c i).z) (zj : 1 ≤ (c j).z) (zk : 1 ≤ (c k).z) (hd : 0 < dt (c i) (c j) (c k)) : 0 ≤ xc C c i j + xc C c j k + xc C c k i := by
  have Ci : 0 < C i := by
    rcases Int.lt_or_le 0 (C i) with h | h
    · exact h
    · have := Int.mul_nonpos_of_nonpos_of_nonneg h (show 0 ≤ (c i).z by omega)
      omega
  have Cj : 0 < C j := by
    rcases Int.lt_or_le 0 (C j) with h | h
    · exact h
    · have := Int.mul_nonpos_of_nonpos_of_nonneg h (show 0 ≤ (c j).z by omega)
      omega
  have Ck : 0 < C k := by
    rcases Int.lt_or_le 0 (C k) with h | h
    · exact h
    · have := Int.mul_nonpos_of_nonpos_of_nonneg h (show 0 ≤ (c k).z by omega)
      omega
  have e : (xc C c i j + xc C c j k + xc C c k i) * W = C i * C j * C k * dt (c i) (c j) (c k) := by
    have e1 : xc C c i j * W = xc C c i j * (C k * (c k).z) := by rw [hk]
    have e2 : xc C c j k * W = xc C c j k * (C i * (c i).z) := by rw [hi]
    have e3 : xc C c k i * W = xc C c k i * (C j * (c j).z) := by rw [hj]
    rw [Int.add_mul, Int.add_mul, e1, e2, e3]
    unfold xc dt det3
    grind
  have p := Int.mul_pos (Int.mul_pos (Int.mul_pos Ci Cj) Ck) hd
  rw [← e] at p
  rcases Int.lt_or_le (xc C c i j + xc C c j k + xc C c k i) 0 with h | h
  · have := Int.mul_neg_of_neg_of_pos h W0
    omega
  · exact h
theorem fan_pos {c : Nat → Tri} {n : Nat} (n3 : 3 ≤ n) (hr : Rnd2 c n) {i : Nat} (hi : i < n - 2) : 0 < dt (c 0) (c (i + 1)) (c (i + 2)) := by
  have z := hr (i + 2) (by omega) 0 (by omega) (by omega) (by rw [Nat.mod_eq_of_lt (by omega)]; omega)
  have e : (i + 2 + (n - 1)) % n = i + 1 := by
    rw [show i + 2 + (n - 1) = i + 1 + n by omega, Nat.add_mod_right]
    exact Nat.mod_eq_of_lt (by omega)
  rw [e] at z
  have r : dt (c 0) (c (i + 1)) (c (i + 2)) = dt (c (i + 1)) (c (i + 2)) (c 0) := by
    unfold dt det3
    grind
  rw [r]
  exact z
theorem cyc_nn {C : Nat → Int} {c : Nat → Tri} {W : Int} {n : Nat} (W0 : 0 < W) (n3 : 3 ≤ n) (hC : ∀ i, i < n → C i * (c i).z = W) (hz : ∀ i, i < n → 1 ≤ (c i).z) (hr : Rnd2 c n) : 0 ≤ sm (fun i => xc C c ((i + (n - 1)) % n) i) n := by
  rw [cyc_path (by omega), show n - 1 = n - 2 + 1 by omega, ← fan_cyc (xc_sw C c)]
  refine (sm_pos fun i hi => ?_).1
  exact tri_pos W0 (hC 0 (by omega)) (hC _ (by omega)) (hC _ (by omega)) (hz 0 (by omega)) (hz _ (by omega)) (hz _ (by omega)) (fan_pos n3 hr hi)
theorem area_ok {c : Nat → Tri} {n f : Nat} (n3 : 3 ≤ n) (n8 : n ≤ 8) (hf : f < n) (hz : ∀ i, i < n → 1 ≤ (c i).z) (hr : Rnd2 c n) : ∃ (W : Int) (C : Nat → Int), 0 < W ∧ (∀ i, i < n → C i * (c ((f + i) % n)).z = W) ∧ nf (ab (sm (fun i => xc C (fun i => c ((f + i) % n)) ((i + (n - 1)) % n) i) n)) (2 * (W * W)) = tfan c n := by
  have W0 := pz_pos (c := c) (n := n) hz
  have hC : ∀ i, i < n → pz c n / (c i).z * (c i).z = pz c n := fun i hi => Int.ediv_mul_cancel (pz_dvd hi)
  have md : ∀ i, i % n < n := fun i => Nat.mod_lt _ (by omega)
  refine ⟨pz c n, fun i => pz c n / (c ((f + i) % n)).z, W0, fun i _ => hC _ (md _), ?_⟩
  have e := (dih_sum (F := xc (fun i => pz c n / (c i).z) c) (xc_sw _ c) n3 n8 hf).1
  have e2 : sm (fun i => xc (fun i => pz c n / (c ((f + i) % n)).z) (fun i => c ((f + i) % n)) ((i + (n - 1)) % n) i) n = sm (fun i => xc (fun i => pz c n / (c i).z) c ((i + (n - 1)) % n) i) n := e
  rw [e2, ab_of (cyc_nn W0 n3 hC hz hr), fan_xc W0 n3 hC hz]
theorem ix15 : ∀ n, n < 9 → 3 ≤ n → ∀ k, k < n → (k + 1) % n ≠ k ∧ ((k + 1) % n + 1) % n ≠ k := by decide +kernel
theorem rot_nz {c : Nat → Tri} {n f : Nat} (n3 : 3 ≤ n) (n8 : n ≤ 8) (hf : f < n) (hr : Rnd2 c n) : ∀ i, i < n → dt (c ((f + (i + (n - 1)) % n) % n)) (c ((f + i) % n)) (c ((f + (i + 1) % n) % n)) ≠ 0 := fun i hi => by
  have md : ∀ i, i % n < n := fun i => Nat.mod_lt _ (by omega)
  rw [(ix5 n (by omega) f hf i hi).1, (ix5b n (by omega) f hf i hi 1 (by omega)).1]
  obtain ⟨h1, h2⟩ := ix15 n (by omega) n3 _ (md (f + i))
  have z := hr _ (md (f + i)) _ (md _) h1 h2
  omega
theorem rot_ad {f i : Nat} {pl : List Addr} (hf : f < pl.length) (hi : i < pl.length) : ad (rot f pl) i = ad pl ((f + i) % pl.length) := by
  unfold rot ad
  rw [List.getD_eq_getElem?_getD, List.getD_eq_getElem?_getD]
  by_cases c : f + i < pl.length
  · rw [List.getElem?_append_left (by rw [List.length_drop]; omega), List.getElem?_drop, Nat.mod_eq_of_lt c]
  · rw [List.getElem?_append_right (by rw [List.length_drop]; omega), List.length_drop, List.getElem?_take_of_lt (by omega)]
    have e : (f + i) % pl.length = f + i - pl.length := by
      rw [Nat.mod_eq_sub_mod (by omega)]
      exact Nat.mod_eq_of_lt (by omega)
    rw [e, show i - (pl.length - f) = f + i - pl.length by omega]
theorem ok_law {e : Addr} {ed : FuncData} (T : Tx K mg t1 t2) (F : FunD K "law" "law" s_law e ed .none) (d__law_cells : DefOk P w K mg base CX0 1 "_law_cells" ["script", "many"] [] (spCells K)) (d__law_some_polygon : DefOk P w K mg base CX0 4 "_law_some_polygon" ["pool"] [] spPoly) (d__law_pool : DefOk P w K mg base CX0 1 "_law_pool" ["cells", "k"] [] spPool) (d__law_handed : DefOk P w K mg base CX0 3 "_law_handed" ["corners"] [] spHanded) (d__law_area : DefOk P w K mg base CX0 4 "_law_area" ["corners"] [] spLArea) (d__law_right : DefOk P w K mg base CX0 2 "_law_right" ["found", "due"] [] spRight) (d_area_of : DefOk P w K mg base CX0 8 "area_of" ["polygon"] [] spArea) : FnOk P w K mg base CX0 9 e ed ["script"] (spLaw K) := by
  refine F.ok sc_law (fun vs H Q E h => ?_) (fun cdv A outer s H vs Q E hr h => ?_)
  · obtain ⟨a, ns, rfl, _⟩ := h
    rfl
  obtain ⟨a, ns, rfl, hS, h63, q⟩ := h
  have S := sc_law
  refine ⟨_, (pss_cons (ps_set (i := 1) S.nd rfl (Or.inl rfl) (pe_callD d__law_cells (hr.mono (by decide)) rfl pass0 (pa_cons (pv 0) (pa_cons pe_int pa_nil se_con) se_nam)))
    (pss_cons (ps_for PassesOwn.never rfl (pi_range1 rfl T.m_range (pa_cons (pe_callB (call_max2 rfl) rfl T.m_max boot_max (pa_cons pe_int (pa_cons (pe_callB call_len_seq rfl T.m_len PySem.boot_len (pa_cons (pv 1) pa_nil se_nam)) pa_nil se_cal) se_con)) pa_nil se_cal)) (pg_name (i := 2) S.nd rfl (Or.inl rfl))
    (pss_cons (ps_set (i := 3) S.nd rfl (Or.inl rfl) (pe_callD d__law_some_polygon (hr.mono (by decide)) rfl pass0 (pa_cons (pe_callD d__law_pool (hr.mono (by decide)) rfl pass0 (pa_cons (pv 1) (pa_cons (pv 2) pa_nil se_nam) se_nam)) pa_nil se_cal)))
    (pss_cons (ps_set (i := 4) S.nd rfl (Or.inl rfl) (pe_callD d__law_handed (hr.mono (by decide)) rfl pass0 (pa_cons (pv 3) pa_nil se_nam)))
    (pss_cons (ps_set (i := 5) S.nd rfl (Or.inl rfl) (pe_callD d__law_area (hr.mono (by decide)) rfl pass0 (pa_cons (pv 3) pa_nil se_nam)))
    (pss_cons (ps_if (PW.pt (pw_or (pt_not (pt_val (pe_callD d__law_right (hr.mono (by decide)) rfl pass0 (pa_cons (pe_callD d_area_of (hr.mono (by decide)) rfl pass0 (pa_cons (pv 4) pa_nil se_nam)) (pa_cons (pv 5) pa_nil se_nam) se_cal)))) (pw_or1 (pt_not (pt_val (pe_callD d__law_right (hr.mono (by decide)) rfl pass0 (pa_cons (pe_callD d_area_of (hr.mono (by decide)) rfl pass0 (pa_cons (pv 4) pa_nil se_nam)) (pa_cons (pv 5) pa_nil se_nam) se_cal)))))))
    (pss_one (ps_ret pe_bl))
    pss_nil)
    (pss_one (ps_if (pt_cmpR (op_neD (un64 hr)) (pv 4) (pe_callD d__law_handed (hr.mono (by decide)) rfl pass0 (pa_cons (pv 3) pa_nil se_nam)) (nomark _))
    (pss_one (ps_ret pe_bl))
    pss_nil)))))))
    (pss_one (ps_ret pe_bl)))), ?_⟩
  walk_at "rf"
  refine ⟨a, ns, 8, rfl, hS, h63, by decide, by decide, fun La H1 ms s1 e1 l1 => ?_⟩
  have kL : SqL K H1 La (ms.map V.int) := SqL.of e1
  have lL : (ms.map V.int).length = ms.length := List.length_map _
  try walk_at "rf"
  refine ⟨_, .inl kL, ?_⟩
  have mx : (if ((ms.map V.int).length : Int) > 1 then ((ms.map V.int).length : Int) else 1) ≤ 8 ∧ 0 ≤ (if ((ms.map V.int).length : Int) > 1 then ((ms.map V.int).length : Int) else 1) := by
    constructor <;> split <;> omega
  generalize (if ((ms.map V.int).length : Int) > 1 then ((ms.map V.int).length : Int) else 1) = nk at mx ⊢
  refine ⟨by omega, by omega, for_range (lo := 0) (n := _) (fun i σ J => Same H1 J ∧ ∃ o2 o3 o4 o5 : Option V, σ = [some (.ref a), some (.ref La), o2, o3, o4, o5]) ⟨Same.refl _, none, none, none, none, rfl⟩ ?_ ?_⟩
  · rintro i σ J hi ⟨sJ, o2, o3, o4, o5, rfl⟩
    walk_at "rf"
    refine ⟨La, ms, _, rfl, sJ _ _ e1, by omega, by omega, fun L J1 hL s2 b2 => ?_⟩
    refine ⟨L, rfl, b2, fun gc J2 rs c s3 b3 e3 n3 n8 hc hr' => ?_⟩
    have sJ2 := sJ.trans (SameB.fresh s2 hL s3)
    have al : argL c rs.length < rs.length := by rcases argL_lt c rs.length with h | h <;> omega
    try walk_at "rf"
    refine ⟨gc, rs, c, rfl, e3, hc, n3, n8, fun gh J3 pl s4 e4 lpl hpl => ?_⟩
    try walk_at "rf"
    refine ⟨gc, rs, c, rfl, s4 _ _ e3, hc.keep s4.t, n3, n8, fun gd J4 s5 e5 => ?_⟩
    have hz : ∀ i, i < rs.length → 1 ≤ (c i).z := fun i hi => (hc.cn i hi).2.2.2
    obtain ⟨W, C, W0, hC, ear⟩ := area_ok (c := c) n3 n8 al hz hr'
    have lrt : (rot (argL c rs.length) pl).length = rs.length := by rw [rot_len (by omega), lpl]
    have rt : ∀ {J' : Hp}, Same J3 J' → ∀ i, i < rs.length → PlcT J' (ad (rot (argL c rs.length) pl) i) (c ((argL c rs.length + i) % rs.length)) := fun {J'} s' i hi => by
      rw [rot_ad (by omega) (by omega), lpl]
      exact (hpl _ (Nat.mod_lt _ (by omega))).keep s'.t
    have cnr : ∀ i, i < rs.length → Cn (c ((argL c rs.length + i) % rs.length)) := fun i hi => hc.cn _ (Nat.mod_lt _ (by omega))
    have nzr := rot_nz (c := c) n3 n8 al hr'
    try walk_at "rf"
    refine ⟨gh, rot (argL c rs.length) pl, fun i => c ((argL c rs.length + i) % rs.length), rfl, s5 _ _ e4, by omega, by omega, fun i hi => ⟨rt s5 i (by omega), cnr i (by omega)⟩, fun i hi => by rw [lrt] at hi ⊢; exact nzr i hi, fun g1 J5 s6 h6 => ?_⟩
    have h6' := h6 W C W0 (fun i hi => hC i (by omega))
    rw [lrt, ear] at h6'
    refine ⟨g1, gd, _, rfl, h6', s6 _ _ e5, fun J6 s7 => ⟨true, rfl, ?_⟩⟩
    rw [if_neg (by decide)]
    have s57 := s5.trans (s6.trans s7)
    refine ⟨gh, rot (argL c rs.length) pl, fun i => c ((argL c rs.length + i) % rs.length), rfl, s57 _ _ e4, by omega, by omega, fun i hi => ⟨rt s57 i (by omega), cnr i (by omega)⟩, fun i hi => by rw [lrt] at hi ⊢; exact nzr i hi, fun g2 J7 s8 h8 => ?_⟩
    have h8' := h8 W C W0 (fun i hi => hC i (by omega))
    rw [lrt, ear] at h8'
    refine ⟨g2, gd, _, rfl, h8', (s6.trans (s7.trans s8)) _ _ e5, fun J8 s9 => ⟨true, rfl, ?_⟩⟩
    rw [if_neg (by decide)]
    have s39 := s57.trans (s8.trans s9)
    have s49 := s4.trans s39
    refine ⟨gc, rs, c, rfl, s49 _ _ e3, hc.keep s49.t, n3, n8, fun gh2 J9 pl2 s10 e10 lpl2 hpl2 => ?_⟩
    have s310 := s39.trans s10
    have al2 : argL c rs.length < pl2.length := by omega
    have cget : ∀ (i : Nat) (x : Tri), ((List.range rs.length).map fun i => c ((argL c rs.length + i) % rs.length))[i]? = some x → i < rs.length ∧ x = c ((argL c rs.length + i) % rs.length) := fun i x h => by
      have hi : i < rs.length := by have := (List.getElem?_eq_some_iff.mp h).1; rw [List.length_map, List.length_range] at this; exact this
      rw [List.getElem?_map, List.getElem?_range hi] at h
      cases h
      exact ⟨hi, rfl⟩
    refine neT_plc (cs := (List.range rs.length).map fun i => c ((argL c rs.length + i) % rs.length)) (s310 _ _ e4) e10 (by rw [lrt, List.length_map, List.length_range]) (by rw [rot_len (by omega), lpl2, List.length_map, List.length_range]) (fun i x h => ?_) (fun i x h => ?_) ⟨_, rfl, ?_⟩
    · obtain ⟨hi, rfl⟩ := cget i x h
      exact rt s310 i hi
    · obtain ⟨hi, rfl⟩ := cget i x h
      rw [rot_ad (by omega) (by omega), lpl2]
      exact hpl2 _ (Nat.mod_lt _ (by omega))
    rw [if_neg (by decide)]
    have fin := sJ2.trans (s49.trans s10)
    first | exact ⟨fin, _, _, _, _, rfl⟩ | exact ⟨fin, _, rfl⟩ | exact ⟨fin, rfl⟩
  · rintro σ J ⟨sJ, o2, o3, o4, o5, rfl⟩
    exact q _
end
theorem all_mk {l : PySem.W.OpenLaw} {w : World} {K : PySem.W.Frag} {h : Heap} {mg : Str → Option Value} {fa fF D fG E : Addr} {t1 : Tok} {tD : Tok} {tE : Tok} (X : K.In h) (G : h.Ns mainGlobals mg) (hfa : mg "law" = some (.ref fa))
    {f0 f1 f2 f3 f4 f5 f6 f7 f8 f9 f10 f11 f12 f13 f14 f15 f16 f17 f18 f19 f20 f21 f22 f23 f24 f25 f26 f27 f28 f29 f30 f31 f32 f33 f34 f35 f36 f37 f38 f39 : Addr} {odF anF odG anG od0 an0 od1 an1 od2 an2 od3 an3 od4 an4 od5 an5 od6 an6 od7 an7 od8 an8 od9 an9 od10 an10 od11 an11 od12 an12 od13 an13 od14 an14 od15 an15 od16 an16 od17 an17 od18 an18 od19 an19 od20 an20 od21 an21 od22 an22 od23 an23 od24 an24 od25 an25 od26 an26 od27 an27 od28 an28 od29 an29 od30 an30 od31 an31 od32 an32 od33 an33 od34 an34 od35 an35 od36 an36 od37 an37 od38 an38 od39 an39 : Option Addr} {slF slG sl0 sl1 sl2 sl3 sl4 sl5 sl6 sl7 sl8 sl9 sl10 sl11 sl12 sl13 sl14 sl15 sl16 sl17 sl18 sl19 sl20 sl21 sl22 sl23 sl24 sl25 sl26 sl27 sl28 sl29 sl30 sl31 sl32 sl33 sl34 sl35 sl36 sl37 sl38 sl39 : Array (Option Value)} {ocF kVF dcF pmF cdF ctF ocG kVG dcG pmG cdG ctG oc0 kV0 dc0 pm0 cd0 ct0 oc1 kV1 dc1 pm1 cd1 ct1 oc2 kV2 dc2 pm2 cd2 ct2 oc3 kV3 dc3 pm3 cd3 ct3 oc4 kV4 dc4 pm4 cd4 ct4 oc5 kV5 dc5 pm5 cd5 ct5 oc6 kV6 dc6 pm6 cd6 ct6 oc7 kV7 dc7 pm7 cd7 ct7 oc8 kV8 dc8 pm8 cd8 ct8 oc9 kV9 dc9 pm9 cd9 ct9 oc10 kV10 dc10 pm10 cd10 ct10 oc11 kV11 dc11 pm11 cd11 ct11 oc12 kV12 dc12 pm12 cd12 ct12 oc13 kV13 dc13 pm13 cd13 ct13 oc14 kV14 dc14 pm14 cd14 ct14 oc15 kV15 dc15 pm15 cd15 ct15 oc16 kV16 dc16 pm16 cd16 ct16 oc17 kV17 dc17 pm17 cd17 ct17 oc18 kV18 dc18 pm18 cd18 ct18 oc19 kV19 dc19 pm19 cd19 ct19 oc20 kV20 dc20 pm20 cd20 ct20 oc21 kV21 dc21 pm21 cd21 ct21 oc22 kV22 dc22 pm22 cd22 ct22 oc23 kV23 dc23 pm23 cd23 ct23 oc24 kV24 dc24 pm24 cd24 ct24 oc25 kV25 dc25 pm25 cd25 ct25 oc26 kV26 dc26 pm26 cd26 ct26 oc27 kV27 dc27 pm27 cd27 ct27 oc28 kV28 dc28 pm28 cd28 ct28 oc29 kV29 dc29 pm29 cd29 ct29 oc30 kV30 dc30 pm30 cd30 ct30 oc31 kV31 dc31 pm31 cd31 ct31 oc32 kV32 dc32 pm32 cd32 ct32 oc33 kV33 dc33 pm33 cd33 ct33 oc34 kV34 dc34 pm34 cd34 ct34 oc35 kV35 dc35 pm35 cd35 ct35 oc36 kV36 dc36 pm36 cd36 ct36 oc37 kV37 dc37 pm37 cd37 ct37 oc38 kV38 dc38 pm38 cd38 ct38 oc39 kV39 dc39 pm39 cd39 ct39 : Value} {oD : Obj} {nD : Nat} {oE : Obj} {nE : Nat}
    (aS0 : PySem.W.nsIn K mainGlobals "SHORT_BITS" = some (some (.int 2000 t1)))
    (aF : PySem.W.nsIn K mainGlobals "fraction" = some (some (.ref fF))) (lF : K.lookup fF = some ⟨ocF, odF, .func (PySem.W.fnOf "fraction" "fraction" (defArgs s_fraction) (defBody s_fraction) (defScope s_fraction) (.ref D) kVF dcF pmF anF cdF ctF), slF⟩) (cF : PySem.W.codeIn K cdF "fraction" = true) (kF : PySem.W.keepIn K (.ref fF) = true) (lD : K.lookup D = some oD) (hD : oD.data = .seq #[.int 1 tD] nD)
    (aG : PySem.W.nsIn K mainGlobals "made_spot" = some (some (.ref fG))) (lG : K.lookup fG = some ⟨ocG, odG, .func (PySem.W.fnOf "made_spot" "made_spot" (defArgs s_made_spot) (defBody s_made_spot) (defScope s_made_spot) (.ref E) kVG dcG pmG anG cdG ctG), slG⟩) (cG : PySem.W.codeIn K cdG "made_spot" = true) (kG : PySem.W.keepIn K (.ref fG) = true) (lE : K.lookup E = some oE) (hE : oE.data = .seq #[.int 1 tE] nE)
    (a0 : PySem.W.nsIn K mainGlobals "greatest_divisor" = some (some (.ref f0))) (l0 : K.lookup f0 = some ⟨oc0, od0, .func (PySem.W.fnOf "greatest_divisor" "greatest_divisor" (defArgs s_greatest_divisor) (defBody s_greatest_divisor) (defScope s_greatest_divisor) .none kV0 dc0 pm0 an0 cd0 ct0), sl0⟩) (c0 : PySem.W.codeIn K cd0 "greatest_divisor" = true) (k0 : PySem.W.keepIn K (.ref f0) = true)
    (a1 : PySem.W.nsIn K mainGlobals "in_lowest_terms" = some (some (.ref f1))) (l1 : K.lookup f1 = some ⟨oc1, od1, .func (PySem.W.fnOf "in_lowest_terms" "in_lowest_terms" (defArgs s_in_lowest_terms) (defBody s_in_lowest_terms) (defScope s_in_lowest_terms) .none kV1 dc1 pm1 an1 cd1 ct1), sl1⟩) (c1 : PySem.W.codeIn K cd1 "in_lowest_terms" = true) (k1 : PySem.W.keepIn K (.ref f1) = true)
    (a2 : PySem.W.nsIn K mainGlobals "crossed" = some (some (.ref f2))) (l2 : K.lookup f2 = some ⟨oc2, od2, .func (PySem.W.fnOf "crossed" "crossed" (defArgs s_crossed) (defBody s_crossed) (defScope s_crossed) .none kV2 dc2 pm2 an2 cd2 ct2), sl2⟩) (c2 : PySem.W.codeIn K cd2 "crossed" = true) (k2 : PySem.W.keepIn K (.ref f2) = true)
    (a3 : PySem.W.nsIn K mainGlobals "determinant" = some (some (.ref f3))) (l3 : K.lookup f3 = some ⟨oc3, od3, .func (PySem.W.fnOf "determinant" "determinant" (defArgs s_determinant) (defBody s_determinant) (defScope s_determinant) .none kV3 dc3 pm3 an3 cd3 ct3), sl3⟩) (c3 : PySem.W.codeIn K cd3 "determinant" = true) (k3 : PySem.W.keepIn K (.ref f3) = true)
    (a4 : PySem.W.nsIn K mainGlobals "stands_first" = some (some (.ref f4))) (l4 : K.lookup f4 = some ⟨oc4, od4, .func (PySem.W.fnOf "stands_first" "stands_first" (defArgs s_stands_first) (defBody s_stands_first) (defScope s_stands_first) .none kV4 dc4 pm4 an4 cd4 ct4), sl4⟩) (c4 : PySem.W.codeIn K cd4 "stands_first" = true) (k4 : PySem.W.keepIn K (.ref f4) = true)
    (a5 : PySem.W.nsIn K mainGlobals "without" = some (some (.ref f5))) (l5 : K.lookup f5 = some ⟨oc5, od5, .func (PySem.W.fnOf "without" "without" (defArgs s_without) (defBody s_without) (defScope s_without) .none kV5 dc5 pm5 an5 cd5 ct5), sl5⟩) (c5 : PySem.W.codeIn K cd5 "without" = true) (k5 : PySem.W.keepIn K (.ref f5) = true)
    (a6 : PySem.W.nsIn K mainGlobals "minor_of" = some (some (.ref f6))) (l6 : K.lookup f6 = some ⟨oc6, od6, .func (PySem.W.fnOf "minor_of" "minor_of" (defArgs s_minor_of) (defBody s_minor_of) (defScope s_minor_of) .none kV6 dc6 pm6 an6 cd6 ct6), sl6⟩) (c6 : PySem.W.codeIn K cd6 "minor_of" = true) (k6 : PySem.W.keepIn K (.ref f6) = true)
    (a7 : PySem.W.nsIn K mainGlobals "made_plane" = some (some (.ref f7))) (l7 : K.lookup f7 = some ⟨oc7, od7, .func (PySem.W.fnOf "made_plane" "made_plane" (defArgs s_made_plane) (defBody s_made_plane) (defScope s_made_plane) .none kV7 dc7 pm7 an7 cd7 ct7), sl7⟩) (c7 : PySem.W.codeIn K cd7 "made_plane" = true) (k7 : PySem.W.keepIn K (.ref f7) = true)
    (a8 : PySem.W.nsIn K mainGlobals "turned_about" = some (some (.ref f8))) (l8 : K.lookup f8 = some ⟨oc8, od8, .func (PySem.W.fnOf "turned_about" "turned_about" (defArgs s_turned_about) (defBody s_turned_about) (defScope s_turned_about) .none kV8 dc8 pm8 an8 cd8 ct8), sl8⟩) (c8 : PySem.W.codeIn K cd8 "turned_about" = true) (k8 : PySem.W.keepIn K (.ref f8) = true)
    (a9 : PySem.W.nsIn K mainGlobals "is_plain" = some (some (.ref f9))) (l9 : K.lookup f9 = some ⟨oc9, od9, .func (PySem.W.fnOf "is_plain" "is_plain" (defArgs s_is_plain) (defBody s_is_plain) (defScope s_is_plain) .none kV9 dc9 pm9 an9 cd9 ct9), sl9⟩) (c9 : PySem.W.codeIn K cd9 "is_plain" = true) (k9 : PySem.W.keepIn K (.ref f9) = true)
    (a10 : PySem.W.nsIn K mainGlobals "rough_plane" = some (some (.ref f10))) (l10 : K.lookup f10 = some ⟨oc10, od10, .func (PySem.W.fnOf "rough_plane" "rough_plane" (defArgs s_rough_plane) (defBody s_rough_plane) (defScope s_rough_plane) .none kV10 dc10 pm10 an10 cd10 ct10), sl10⟩) (c10 : PySem.W.codeIn K cd10 "rough_plane" = true) (k10 : PySem.W.keepIn K (.ref f10) = true)
    (a11 : PySem.W.nsIn K mainGlobals "plane_through" = some (some (.ref f11))) (l11 : K.lookup f11 = some ⟨oc11, od11, .func (PySem.W.fnOf "plane_through" "plane_through" (defArgs s_plane_through) (defBody s_plane_through) (defScope s_plane_through) .none kV11 dc11 pm11 an11 cd11 ct11), sl11⟩) (c11 : PySem.W.codeIn K cd11 "plane_through" = true) (k11 : PySem.W.keepIn K (.ref f11) = true)
    (a12 : PySem.W.nsIn K mainGlobals "formed" = some (some (.ref f12))) (l12 : K.lookup f12 = some ⟨oc12, od12, .func (PySem.W.fnOf "formed" "formed" (defArgs s_formed) (defBody s_formed) (defScope s_formed) .none kV12 dc12 pm12 an12 cd12 ct12), sl12⟩) (c12 : PySem.W.codeIn K cd12 "formed" = true) (k12 : PySem.W.keepIn K (.ref f12) = true)
    (a13 : PySem.W.nsIn K mainGlobals "flat_axis" = some (some (.ref f13))) (l13 : K.lookup f13 = some ⟨oc13, od13, .func (PySem.W.fnOf "flat_axis" "flat_axis" (defArgs s_flat_axis) (defBody s_flat_axis) (defScope s_flat_axis) .none kV13 dc13 pm13 an13 cd13 ct13), sl13⟩) (c13 : PySem.W.codeIn K cd13 "flat_axis" = true) (k13 : PySem.W.keepIn K (.ref f13) = true)
    (a14 : PySem.W.nsIn K mainGlobals "plane_of" = some (some (.ref f14))) (l14 : K.lookup f14 = some ⟨oc14, od14, .func (PySem.W.fnOf "plane_of" "plane_of" (defArgs s_plane_of) (defBody s_plane_of) (defScope s_plane_of) .none kV14 dc14 pm14 an14 cd14 ct14), sl14⟩) (c14 : PySem.W.codeIn K cd14 "plane_of" = true) (k14 : PySem.W.keepIn K (.ref f14) = true)
    (a15 : PySem.W.nsIn K mainGlobals "plus" = some (some (.ref f15))) (l15 : K.lookup f15 = some ⟨oc15, od15, .func (PySem.W.fnOf "plus" "plus" (defArgs s_plus) (defBody s_plus) (defScope s_plus) .none kV15 dc15 pm15 an15 cd15 ct15), sl15⟩) (c15 : PySem.W.codeIn K cd15 "plus" = true) (k15 : PySem.W.keepIn K (.ref f15) = true)
    (a16 : PySem.W.nsIn K mainGlobals "total_of" = some (some (.ref f16))) (l16 : K.lookup f16 = some ⟨oc16, od16, .func (PySem.W.fnOf "total_of" "total_of" (defArgs s_total_of) (defBody s_total_of) (defScope s_total_of) .none kV16 dc16 pm16 an16 cd16 ct16), sl16⟩) (c16 : PySem.W.codeIn K cd16 "total_of" = true) (k16 : PySem.W.keepIn K (.ref f16) = true)
    (a17 : PySem.W.nsIn K mainGlobals "edges_of" = some (some (.ref f17))) (l17 : K.lookup f17 = some ⟨oc17, od17, .func (PySem.W.fnOf "edges_of" "edges_of" (defArgs s_edges_of) (defBody s_edges_of) (defScope s_edges_of) .none kV17 dc17 pm17 an17 cd17 ct17), sl17⟩) (c17 : PySem.W.codeIn K cd17 "edges_of" = true) (k17 : PySem.W.keepIn K (.ref f17) = true)
    (a18 : PySem.W.nsIn K mainGlobals "swept_by" = some (some (.ref f18))) (l18 : K.lookup f18 = some ⟨oc18, od18, .func (PySem.W.fnOf "swept_by" "swept_by" (defArgs s_swept_by) (defBody s_swept_by) (defScope s_swept_by) .none kV18 dc18 pm18 an18 cd18 ct18), sl18⟩) (c18 : PySem.W.codeIn K cd18 "swept_by" = true) (k18 : PySem.W.keepIn K (.ref f18) = true)
    (a19 : PySem.W.nsIn K mainGlobals "size_of" = some (some (.ref f19))) (l19 : K.lookup f19 = some ⟨oc19, od19, .func (PySem.W.fnOf "size_of" "size_of" (defArgs s_size_of) (defBody s_size_of) (defScope s_size_of) .none kV19 dc19 pm19 an19 cd19 ct19), sl19⟩) (c19 : PySem.W.codeIn K cd19 "size_of" = true) (k19 : PySem.W.keepIn K (.ref f19) = true)
    (a20 : PySem.W.nsIn K mainGlobals "flat_spot" = some (some (.ref f20))) (l20 : K.lookup f20 = some ⟨oc20, od20, .func (PySem.W.fnOf "flat_spot" "flat_spot" (defArgs s_flat_spot) (defBody s_flat_spot) (defScope s_flat_spot) .none kV20 dc20 pm20 an20 cd20 ct20), sl20⟩) (c20 : PySem.W.codeIn K cd20 "flat_spot" = true) (k20 : PySem.W.keepIn K (.ref f20) = true)
    (a21 : PySem.W.nsIn K mainGlobals "laid_flat" = some (some (.ref f21))) (l21 : K.lookup f21 = some ⟨oc21, od21, .func (PySem.W.fnOf "laid_flat" "laid_flat" (defArgs s_laid_flat) (defBody s_laid_flat) (defScope s_laid_flat) .none kV21 dc21 pm21 an21 cd21 ct21), sl21⟩) (c21 : PySem.W.codeIn K cd21 "laid_flat" = true) (k21 : PySem.W.keepIn K (.ref f21) = true)
    (a22 : PySem.W.nsIn K mainGlobals "area_of" = some (some (.ref f22))) (l22 : K.lookup f22 = some ⟨oc22, od22, .func (PySem.W.fnOf "area_of" "area_of" (defArgs s_area_of) (defBody s_area_of) (defScope s_area_of) .none kV22 dc22 pm22 an22 cd22 ct22), sl22⟩) (c22 : PySem.W.codeIn K cd22 "area_of" = true) (k22 : PySem.W.keepIn K (.ref f22) = true)
    (a23 : PySem.W.nsIn K mainGlobals "_law_cells" = some (some (.ref f23))) (l23 : K.lookup f23 = some ⟨oc23, od23, .func (PySem.W.fnOf "_law_cells" "_law_cells" (defArgs s__law_cells) (defBody s__law_cells) (defScope s__law_cells) .none kV23 dc23 pm23 an23 cd23 ct23), sl23⟩) (c23 : PySem.W.codeIn K cd23 "_law_cells" = true) (k23 : PySem.W.keepIn K (.ref f23) = true)
    (a24 : PySem.W.nsIn K mainGlobals "_law_pool" = some (some (.ref f24))) (l24 : K.lookup f24 = some ⟨oc24, od24, .func (PySem.W.fnOf "_law_pool" "_law_pool" (defArgs s__law_pool) (defBody s__law_pool) (defScope s__law_pool) .none kV24 dc24 pm24 an24 cd24 ct24), sl24⟩) (c24 : PySem.W.codeIn K cd24 "_law_pool" = true) (k24 : PySem.W.keepIn K (.ref f24) = true)
    (a25 : PySem.W.nsIn K mainGlobals "_law_take" = some (some (.ref f25))) (l25 : K.lookup f25 = some ⟨oc25, od25, .func (PySem.W.fnOf "_law_take" "_law_take" (defArgs s__law_take) (defBody s__law_take) (defScope s__law_take) .none kV25 dc25 pm25 an25 cd25 ct25), sl25⟩) (c25 : PySem.W.codeIn K cd25 "_law_take" = true) (k25 : PySem.W.keepIn K (.ref f25) = true)
    (a26 : PySem.W.nsIn K mainGlobals "_law_divisor" = some (some (.ref f26))) (l26 : K.lookup f26 = some ⟨oc26, od26, .func (PySem.W.fnOf "_law_divisor" "_law_divisor" (defArgs s__law_divisor) (defBody s__law_divisor) (defScope s__law_divisor) .none kV26 dc26 pm26 an26 cd26 ct26), sl26⟩) (c26 : PySem.W.codeIn K cd26 "_law_divisor" = true) (k26 : PySem.W.keepIn K (.ref f26) = true)
    (a27 : PySem.W.nsIn K mainGlobals "_law_lowest" = some (some (.ref f27))) (l27 : K.lookup f27 = some ⟨oc27, od27, .func (PySem.W.fnOf "_law_lowest" "_law_lowest" (defArgs s__law_lowest) (defBody s__law_lowest) (defScope s__law_lowest) .none kV27 dc27 pm27 an27 cd27 ct27), sl27⟩) (c27 : PySem.W.codeIn K cd27 "_law_lowest" = true) (k27 : PySem.W.keepIn K (.ref f27) = true)
    (a28 : PySem.W.nsIn K mainGlobals "_law_plus" = some (some (.ref f28))) (l28 : K.lookup f28 = some ⟨oc28, od28, .func (PySem.W.fnOf "_law_plus" "_law_plus" (defArgs s__law_plus) (defBody s__law_plus) (defScope s__law_plus) .none kV28 dc28 pm28 an28 cd28 ct28), sl28⟩) (c28 : PySem.W.codeIn K cd28 "_law_plus" = true) (k28 : PySem.W.keepIn K (.ref f28) = true)
    (a29 : PySem.W.nsIn K mainGlobals "_law_height" = some (some (.ref f29))) (l29 : K.lookup f29 = some ⟨oc29, od29, .func (PySem.W.fnOf "_law_height" "_law_height" (defArgs s__law_height) (defBody s__law_height) (defScope s__law_height) .none kV29 dc29 pm29 an29 cd29 ct29), sl29⟩) (c29 : PySem.W.codeIn K cd29 "_law_height" = true) (k29 : PySem.W.keepIn K (.ref f29) = true)
    (a30 : PySem.W.nsIn K mainGlobals "_law_through" = some (some (.ref f30))) (l30 : K.lookup f30 = some ⟨oc30, od30, .func (PySem.W.fnOf "_law_through" "_law_through" (defArgs s__law_through) (defBody s__law_through) (defScope s__law_through) .none kV30 dc30 pm30 an30 cd30 ct30), sl30⟩) (c30 : PySem.W.codeIn K cd30 "_law_through" = true) (k30 : PySem.W.keepIn K (.ref f30) = true)
    (a31 : PySem.W.nsIn K mainGlobals "_law_left" = some (some (.ref f31))) (l31 : K.lookup f31 = some ⟨oc31, od31, .func (PySem.W.fnOf "_law_left" "_law_left" (defArgs s__law_left) (defBody s__law_left) (defScope s__law_left) .none kV31 dc31 pm31 an31 cd31 ct31), sl31⟩) (c31 : PySem.W.codeIn K cd31 "_law_left" = true) (k31 : PySem.W.keepIn K (.ref f31) = true)
    (a32 : PySem.W.nsIn K mainGlobals "_law_is_round" = some (some (.ref f32))) (l32 : K.lookup f32 = some ⟨oc32, od32, .func (PySem.W.fnOf "_law_is_round" "_law_is_round" (defArgs s__law_is_round) (defBody s__law_is_round) (defScope s__law_is_round) .none kV32 dc32 pm32 an32 cd32 ct32), sl32⟩) (c32 : PySem.W.codeIn K cd32 "_law_is_round" = true) (k32 : PySem.W.keepIn K (.ref f32) = true)
    (a33 : PySem.W.nsIn K mainGlobals "_law_some_corner" = some (some (.ref f33))) (l33 : K.lookup f33 = some ⟨oc33, od33, .func (PySem.W.fnOf "_law_some_corner" "_law_some_corner" (defArgs s__law_some_corner) (defBody s__law_some_corner) (defScope s__law_some_corner) .none kV33 dc33 pm33 an33 cd33 ct33), sl33⟩) (c33 : PySem.W.codeIn K cd33 "_law_some_corner" = true) (k33 : PySem.W.keepIn K (.ref f33) = true)
    (a34 : PySem.W.nsIn K mainGlobals "_law_some_polygon" = some (some (.ref f34))) (l34 : K.lookup f34 = some ⟨oc34, od34, .func (PySem.W.fnOf "_law_some_polygon" "_law_some_polygon" (defArgs s__law_some_polygon) (defBody s__law_some_polygon) (defScope s__law_some_polygon) .none kV34 dc34 pm34 an34 cd34 ct34), sl34⟩) (c34 : PySem.W.codeIn K cd34 "_law_some_polygon" = true) (k34 : PySem.W.keepIn K (.ref f34) = true)
    (a35 : PySem.W.nsIn K mainGlobals "_law_handed" = some (some (.ref f35))) (l35 : K.lookup f35 = some ⟨oc35, od35, .func (PySem.W.fnOf "_law_handed" "_law_handed" (defArgs s__law_handed) (defBody s__law_handed) (defScope s__law_handed) .none kV35 dc35 pm35 an35 cd35 ct35), sl35⟩) (c35 : PySem.W.codeIn K cd35 "_law_handed" = true) (k35 : PySem.W.keepIn K (.ref f35) = true)
    (a36 : PySem.W.nsIn K mainGlobals "_law_area" = some (some (.ref f36))) (l36 : K.lookup f36 = some ⟨oc36, od36, .func (PySem.W.fnOf "_law_area" "_law_area" (defArgs s__law_area) (defBody s__law_area) (defScope s__law_area) .none kV36 dc36 pm36 an36 cd36 ct36), sl36⟩) (c36 : PySem.W.codeIn K cd36 "_law_area" = true) (k36 : PySem.W.keepIn K (.ref f36) = true)
    (a37 : PySem.W.nsIn K mainGlobals "_law_is_whole" = some (some (.ref f37))) (l37 : K.lookup f37 = some ⟨oc37, od37, .func (PySem.W.fnOf "_law_is_whole" "_law_is_whole" (defArgs s__law_is_whole) (defBody s__law_is_whole) (defScope s__law_is_whole) .none kV37 dc37 pm37 an37 cd37 ct37), sl37⟩) (c37 : PySem.W.codeIn K cd37 "_law_is_whole" = true) (k37 : PySem.W.keepIn K (.ref f37) = true)
    (a38 : PySem.W.nsIn K mainGlobals "_law_right" = some (some (.ref f38))) (l38 : K.lookup f38 = some ⟨oc38, od38, .func (PySem.W.fnOf "_law_right" "_law_right" (defArgs s__law_right) (defBody s__law_right) (defScope s__law_right) .none kV38 dc38 pm38 an38 cd38 ct38), sl38⟩) (c38 : PySem.W.codeIn K cd38 "_law_right" = true) (k38 : PySem.W.keepIn K (.ref f38) = true)
    (a39 : PySem.W.nsIn K mainGlobals "law" = some (some (.ref f39))) (l39 : K.lookup f39 = some ⟨oc39, od39, .func (PySem.W.fnOf "law" "law" (defArgs s_law) (defBody s_law) (defScope s_law) .none kV39 dc39 pm39 an39 cd39 ct39), sl39⟩) (c39 : PySem.W.codeIn K cd39 "law" = true) (k39 : PySem.W.keepIn K (.ref f39) = true)
    (z0 : PySem.W.nsIn K mainGlobals "abs" = some none) (z1 : PySem.W.nsIn K mainGlobals "max" = some none) (z2 : PySem.W.nsIn K mainGlobals "min" = some none) (z3 : PySem.W.nsIn K mainGlobals "len" = some none) (z4 : PySem.W.nsIn K mainGlobals "all" = some none) (z5 : PySem.W.nsIn K mainGlobals "range" = some none) (z6 : PySem.W.nsIn K mainGlobals "tuple" = some none) (z7 : PySem.W.nsIn K mainGlobals "int" = some none) (z8 : PySem.W.nsIn K mainGlobals "bool" = some none) (z9 : PySem.W.nsIn K mainGlobals "isinstance" = some none) (z10 : PySem.W.nsIn K mainGlobals "list" = some none) (z11 : PySem.W.nsIn K mainGlobals "reversed" = some none) (z12 : PySem.W.nsIn K mainGlobals "sum" = some none) (z13 : PySem.W.nsIn K mainGlobals "enumerate" = some none) :
    ∃ fd : FuncData, (∀ (s : Shared) (v : Value), BindsTo s fd ⟨[v], []⟩ [("script", v)]) ∧ ∀ base : Heap, K.In base → base.Ns mainGlobals mg → FnOk l.prog w K mg base CX0 9 fa fd ["script"] (spLaw K) := by
  have e := hfa.symm.trans (PySem.W.mg_of X G a39)
  cases e
  have T : Tx K mg t1 t1 := ⟨PySem.W.mg_none_of X G z0, PySem.W.mg_none_of X G z1, PySem.W.mg_none_of X G z2, PySem.W.mg_none_of X G z3, PySem.W.mg_none_of X G z4, PySem.W.mg_none_of X G z5, PySem.W.mg_none_of X G z6, PySem.W.mg_none_of X G z7, PySem.W.mg_none_of X G z8, PySem.W.mg_none_of X G z9, PySem.W.mg_none_of X G z10, PySem.W.mg_none_of X G z11, PySem.W.mg_none_of X G z12, PySem.W.mg_none_of X G z13, PySem.W.mg_of X G aS0⟩
  have A_greatest_divisor := at_mk (st := s_greatest_divisor) (ps := ["one", "other"]) X G (fun _ _ _ _ _ _ us hl => match us, hl with | [_, _], _ => rfl) a0 l0 c0 k0
  have A_in_lowest_terms := at_mk (st := s_in_lowest_terms) (ps := ["numbers"]) X G (fun _ _ _ _ _ _ us hl => match us, hl with | [_], _ => rfl) a1 l1 c1 k1
  have A_crossed := at_mk (st := s_crossed) (ps := ["one", "other"]) X G (fun _ _ _ _ _ _ us hl => match us, hl with | [_, _], _ => rfl) a2 l2 c2 k2
  have A_determinant := at_mk (st := s_determinant) (ps := ["one", "other", "third"]) X G (fun _ _ _ _ _ _ us hl => match us, hl with | [_, _, _], _ => rfl) a3 l3 c3 k3
  have A_stands_first := at_mk (st := s_stands_first) (ps := ["one", "other"]) X G (fun _ _ _ _ _ _ us hl => match us, hl with | [_, _], _ => rfl) a4 l4 c4 k4
  have A_without := at_mk (st := s_without) (ps := ["spot", "place"]) X G (fun _ _ _ _ _ _ us hl => match us, hl with | [_, _], _ => rfl) a5 l5 c5 k5
  have A_minor_of := at_mk (st := s_minor_of) (ps := ["one", "other", "third", "place"]) X G (fun _ _ _ _ _ _ us hl => match us, hl with | [_, _, _, _], _ => rfl) a6 l6 c6 k6
  have A_made_plane := at_mk (st := s_made_plane) (ps := ["a", "b", "c", "d"]) X G (fun _ _ _ _ _ _ us hl => match us, hl with | [_, _, _, _], _ => rfl) a7 l7 c7 k7
  have A_turned_about := at_mk (st := s_turned_about) (ps := ["plane"]) X G (fun _ _ _ _ _ _ us hl => match us, hl with | [_], _ => rfl) a8 l8 c8 k8
  have A_is_plain := at_mk (st := s_is_plain) (ps := ["plane"]) X G (fun _ _ _ _ _ _ us hl => match us, hl with | [_], _ => rfl) a9 l9 c9 k9
  have A_rough_plane := at_mk (st := s_rough_plane) (ps := ["one", "other", "third"]) X G (fun _ _ _ _ _ _ us hl => match us, hl with | [_, _, _], _ => rfl) a10 l10 c10 k10
  have A_plane_through := at_mk (st := s_plane_through) (ps := ["one", "other", "third"]) X G (fun _ _ _ _ _ _ us hl => match us, hl with | [_, _, _], _ => rfl) a11 l11 c11 k11
  have A_formed := at_mk (st := s_formed) (ps := ["corners"]) X G (fun _ _ _ _ _ _ us hl => match us, hl with | [_], _ => rfl) a12 l12 c12 k12
  have A_flat_axis := at_mk (st := s_flat_axis) (ps := ["plane"]) X G (fun _ _ _ _ _ _ us hl => match us, hl with | [_], _ => rfl) a13 l13 c13 k13
  have A_plane_of := at_mk (st := s_plane_of) (ps := ["board"]) X G (fun _ _ _ _ _ _ us hl => match us, hl with | [_], _ => rfl) a14 l14 c14 k14
  have A_plus := at_mk (st := s_plus) (ps := ["one", "other"]) X G (fun _ _ _ _ _ _ us hl => match us, hl with | [_, _], _ => rfl) a15 l15 c15 k15
  have A_total_of := at_mk (st := s_total_of) (ps := ["some"]) X G (fun _ _ _ _ _ _ us hl => match us, hl with | [_], _ => rfl) a16 l16 c16 k16
  have A_edges_of := at_mk (st := s_edges_of) (ps := ["board"]) X G (fun _ _ _ _ _ _ us hl => match us, hl with | [_], _ => rfl) a17 l17 c17 k17
  have A_swept_by := at_mk (st := s_swept_by) (ps := ["edge", "axis"]) X G (fun _ _ _ _ _ _ us hl => match us, hl with | [_, _], _ => rfl) a18 l18 c18 k18
  have A_size_of := at_mk (st := s_size_of) (ps := ["board"]) X G (fun _ _ _ _ _ _ us hl => match us, hl with | [_], _ => rfl) a19 l19 c19 k19
  have A_flat_spot := at_mk (st := s_flat_spot) (ps := ["place"]) X G (fun _ _ _ _ _ _ us hl => match us, hl with | [_], _ => rfl) a20 l20 c20 k20
  have A_laid_flat := at_mk (st := s_laid_flat) (ps := ["polygon"]) X G (fun _ _ _ _ _ _ us hl => match us, hl with | [_], _ => rfl) a21 l21 c21 k21
  have A_area_of := at_mk (st := s_area_of) (ps := ["polygon"]) X G (fun _ _ _ _ _ _ us hl => match us, hl with | [_], _ => rfl) a22 l22 c22 k22
  have A__law_cells := at_mk (st := s__law_cells) (ps := ["script", "many"]) X G (fun _ _ _ _ _ _ us hl => match us, hl with | [_, _], _ => rfl) a23 l23 c23 k23
  have A__law_pool := at_mk (st := s__law_pool) (ps := ["cells", "k"]) X G (fun _ _ _ _ _ _ us hl => match us, hl with | [_, _], _ => rfl) a24 l24 c24 k24
  have A__law_take := at_mk (st := s__law_take) (ps := ["pool", "many"]) X G (fun _ _ _ _ _ _ us hl => match us, hl with | [_, _], _ => rfl) a25 l25 c25 k25
  have A__law_divisor := at_mk (st := s__law_divisor) (ps := ["one", "other"]) X G (fun _ _ _ _ _ _ us hl => match us, hl with | [_, _], _ => rfl) a26 l26 c26 k26
  have A__law_lowest := at_mk (st := s__law_lowest) (ps := ["top", "bottom"]) X G (fun _ _ _ _ _ _ us hl => match us, hl with | [_, _], _ => rfl) a27 l27 c27 k27
  have A__law_plus := at_mk (st := s__law_plus) (ps := ["one", "other"]) X G (fun _ _ _ _ _ _ us hl => match us, hl with | [_, _], _ => rfl) a28 l28 c28 k28
  have A__law_height := at_mk (st := s__law_height) (ps := ["line", "corner"]) X G (fun _ _ _ _ _ _ us hl => match us, hl with | [_, _], _ => rfl) a29 l29 c29 k29
  have A__law_through := at_mk (st := s__law_through) (ps := ["one", "other"]) X G (fun _ _ _ _ _ _ us hl => match us, hl with | [_, _], _ => rfl) a30 l30 c30 k30
  have A__law_left := at_mk (st := s__law_left) (ps := ["one", "other", "third"]) X G (fun _ _ _ _ _ _ us hl => match us, hl with | [_, _, _], _ => rfl) a31 l31 c31 k31
  have A__law_is_round := at_mk (st := s__law_is_round) (ps := ["corners"]) X G (fun _ _ _ _ _ _ us hl => match us, hl with | [_], _ => rfl) a32 l32 c32 k32
  have A__law_some_corner := at_mk (st := s__law_some_corner) (ps := ["pool"]) X G (fun _ _ _ _ _ _ us hl => match us, hl with | [_], _ => rfl) a33 l33 c33 k33
  have A__law_some_polygon := at_mk (st := s__law_some_polygon) (ps := ["pool"]) X G (fun _ _ _ _ _ _ us hl => match us, hl with | [_], _ => rfl) a34 l34 c34 k34
  have A__law_handed := at_mk (st := s__law_handed) (ps := ["corners"]) X G (fun _ _ _ _ _ _ us hl => match us, hl with | [_], _ => rfl) a35 l35 c35 k35
  have A__law_area := at_mk (st := s__law_area) (ps := ["corners"]) X G (fun _ _ _ _ _ _ us hl => match us, hl with | [_], _ => rfl) a36 l36 c36 k36
  have A__law_is_whole := at_mk (st := s__law_is_whole) (ps := ["thing"]) X G (fun _ _ _ _ _ _ us hl => match us, hl with | [_], _ => rfl) a37 l37 c37 k37
  have A__law_right := at_mk (st := s__law_right) (ps := ["found", "due"]) X G (fun _ _ _ _ _ _ us hl => match us, hl with | [_, _], _ => rfl) a38 l38 c38 k38
  have AF : At K mg "fraction" s_fraction ["top", "bottom"] [] := at_mkD (ds := []) X G (fun _ _ _ _ _ _ us hl => match us, hl with | [_, _], _ => ⟨_, rfl, rfl⟩) aF lF cF kF lD hD .nil
  have AF1 : At K mg "fraction" s_fraction ["top", "bottom"] [.int 1] := at_mkD (ds := [.int 1 tD]) X G (fun _ _ _ _ _ _ us hl => by
    rw [List.length_append] at hl
    have hl2 : us.length = 1 := by simpa using hl
    match us, hl2 with
    | [u0], _ => exact ⟨_, rfl, rfl⟩) aF lF cF kF lD hD (.cons ⟨_, rfl⟩ .nil)
  have AG : At K mg "made_spot" s_made_spot ["x", "y", "z", "w"] [] := at_mkD (ds := []) X G (fun _ _ _ _ _ _ us hl => match us, hl with | [_, _, _, _], _ => ⟨_, rfl, rfl⟩) aG lG cG kG lE hE .nil
  have AG1 : At K mg "made_spot" s_made_spot ["x", "y", "z", "w"] [.int 1] := at_mkD (ds := [.int 1 tE]) X G (fun _ _ _ _ _ _ us hl => by
    rw [List.length_append] at hl
    have hl2 : us.length = 3 := by simpa using hl
    match us, hl2 with
    | [u0, u1, u2], _ => exact ⟨_, rfl, rfl⟩) aG lG cG kG lE hE (.cons ⟨_, rfl⟩ .nil)
  have FL := fund_mk (st := s_law) l39 c39 k39
  refine ⟨PySem.W.fnOf "law" "law" (defArgs s_law) (defBody s_law) (defScope s_law) .none kV39 dc39 pm39 an39 cd39 ct39, fun s v => .of_eq rfl, fun base _ _ => ?_⟩
  have D0 := ok_gd (P := l.prog) (w := w) (base := base) T A_greatest_divisor
  have D1 := ok_low (P := l.prog) (w := w) (base := base) T A_in_lowest_terms D0
  have D2 := ok_crossed (P := l.prog) (w := w) (base := base) T A_crossed
  have D3 := ok_det (P := l.prog) (w := w) (base := base) T A_determinant D2
  have D4 := ok_first (P := l.prog) (w := w) (base := base) T A_stands_first
  have D5 := ok_without (P := l.prog) (w := w) (base := base) T A_without
  have D6 := ok_minor (P := l.prog) (w := w) (base := base) T A_minor_of D5 D3
  have D7 := ok_plane (P := l.prog) (w := w) (base := base) T A_made_plane D1
  have D8 := ok_turned (P := l.prog) (w := w) (base := base) T A_turned_about
  have D9 := ok_plain (P := l.prog) (w := w) (base := base) T A_is_plain
  have D10 := ok_rough (P := l.prog) (w := w) (base := base) T A_rough_plane D6
  have D11 := ok_through (P := l.prog) (w := w) (base := base) T A_plane_through D10 D7 D9 D8
  have D12 := ok_formed (P := l.prog) (w := w) (base := base) T A_formed D4
  have D13 := ok_axis (P := l.prog) (w := w) (base := base) T A_flat_axis
  have D14 := ok_planeof (P := l.prog) (w := w) (base := base) T A_plane_of D11
  have D15 := ok_frac (P := l.prog) (w := w) (base := base) T AF D1
  have D16 := ok_plus (P := l.prog) (w := w) (base := base) T A_plus D15
  have D17 := ok_total (P := l.prog) (w := w) (base := base) T A_total_of D16
  have D18 := ok_edges (P := l.prog) (w := w) (base := base) T A_edges_of
  have D19 := ok_swept (P := l.prog) (w := w) (base := base) T A_swept_by D5 D15
  have D20 := ok_size (P := l.prog) (w := w) (base := base) T A_size_of D14 D13 D18 D19 D17 D15
  have D21 := ok_mspot (P := l.prog) (w := w) (base := base) T AG D1
  have D22 := ok_flats (P := l.prog) (w := w) (base := base) T A_flat_spot D21
  have D23 := ok_laid (P := l.prog) (w := w) (base := base) T A_laid_flat D22 D12
  have D24 := ok_area (P := l.prog) (w := w) (base := base) T A_area_of D23 D20
  have D25 := ok_cells (P := l.prog) (w := w) (base := base) T A__law_cells
  have D26 := ok_pool (P := l.prog) (w := w) (base := base) T A__law_pool
  have D27 := ok_take (P := l.prog) (w := w) (base := base) T A__law_take
  have D28 := ok_div2 (P := l.prog) (w := w) (base := base) T A__law_divisor
  have D29 := ok_low2 (P := l.prog) (w := w) (base := base) T A__law_lowest D28
  have D30 := ok_plus2 (P := l.prog) (w := w) (base := base) T A__law_plus D29
  have D31 := ok_ht2 (P := l.prog) (w := w) (base := base) T A__law_height
  have D32 := ok_thr2 (P := l.prog) (w := w) (base := base) T A__law_through
  have D33 := ok_left2 (P := l.prog) (w := w) (base := base) T A__law_left D32 D31
  have D34 := ok_round (P := l.prog) (w := w) (base := base) T A__law_is_round D33
  have D35 := ok_corner (P := l.prog) (w := w) (base := base) T A__law_some_corner D27
  have D36 := ok_poly (P := l.prog) (w := w) (base := base) T A__law_some_polygon D27 D35 D34
  have D37 := ok_handed (P := l.prog) (w := w) (base := base) T A__law_handed D29
  have D38 := ok_larea (P := l.prog) (w := w) (base := base) T A__law_area D33 D29 D30
  have D39 := ok_whole (P := l.prog) (w := w) (base := base) T A__law_is_whole
  have D40 := ok_right (P := l.prog) (w := w) (base := base) T A__law_right D39
  exact ok_law T FL D25 D36 D26 D37 D38 D40 D24
theorem walk {l : PySem.W.OpenLaw} {q : Program} {loose : List Str} {XP : (Str → Option Value) → Heap → Prop} {YP : World → Heap → Prop} {d : DefRec} {K : Params → PySem.W.Frag} (hn : l.most = some 63) (hdf : d.params.defaults = [])
    (hY : ∀ (w : World) (h : Heap), YP w h → (K w.params).In h)
    (F : ∀ (w : World) (mg : Str → Option Value) (fa : Addr) (h : Heap), (K w.params).In h → h.Ns mainGlobals mg → mg d.name = some (.ref fa) →
      ∃ fd : FuncData, (∀ (s : Shared) (u : Value), BindsTo s fd ⟨[u], []⟩ [("script", u)]) ∧ ∀ base : Heap, (K w.params).In base → base.Ns mainGlobals mg → FnOk l.prog w (K w.params) mg base CX0 9 fa fd ["script"] (spLaw (K w.params))) :
    PySem.W.WalkO q loose XP YP l.row.toRowW d [] (fun f vs => PySem.call f vs) :=
  L2.walk_of (n := 63) (k := 9) (x := "script") (CX := fun _ => CX0) (sp := fun w => spLaw (K w.params)) hn (by decide) hdf ⟨rfl, by decide, by decide⟩ hY F (fun _ _ a ns hl _ hS => ⟨a, ns, rfl, hS, hl, fun _ => rfl⟩) fun _ _ _ _ _ z => z
end My
def PySem.W.Fast.tw10097107519993081560 : Unit := ()
def PySem.W.Fast.tw10915929918722723533 : Unit := ()
def PySem.W.Fast.tw11751503007814096671 : Unit := ()
def PySem.W.Fast.tw11977563763802508565 : Unit := ()
def PySem.W.Fast.tw12705903895665637113 : Unit := ()
def PySem.W.Fast.tw13010724117247303056 : Unit := ()
def PySem.W.Fast.tw13029353253325140081 : Unit := ()
def PySem.W.Fast.tw14392307191517584820 : Unit := ()
def PySem.W.Fast.tw14838653095221690380 : Unit := ()
def PySem.W.Fast.tw14877864795873884563 : Unit := ()
def PySem.W.Fast.tw15617203743003501025 : Unit := ()
def PySem.W.Fast.tw16090439323746732545 : Unit := ()
def PySem.W.Fast.tw16588490250872429354 : Unit := ()
def PySem.W.Fast.tw16881235803941109805 : Unit := ()
def PySem.W.Fast.tw16978999356583106094 : Unit := ()
def PySem.W.Fast.tw17206760484483106216 : Unit := ()
def PySem.W.Fast.tw17267086087327116772 : Unit := ()
def PySem.W.Fast.tw17342844704516015775 : Unit := ()
def PySem.W.Fast.tw17960208824207108003 : Unit := ()
def PySem.W.Fast.tw3108622170946832062 : Unit := ()
def PySem.W.Fast.tw3897272126110440800 : Unit := ()
def PySem.W.Fast.tw4418253016596176740 : Unit := ()
def PySem.W.Fast.tw45759575137159240 : Unit := ()
def PySem.W.Fast.tw5085049340022741909 : Unit := ()
def PySem.W.Fast.tw5850484445759120910 : Unit := ()
def PySem.W.Fast.tw6252705725434594043 : Unit := ()
def PySem.W.Fast.tw6401258245462725833 : Unit := ()
def PySem.W.Fast.tw6564280049467825792 : Unit := ()
def PySem.W.Fast.tw7083484921113457493 : Unit := ()
def PySem.W.Fast.tw7114763983931774887 : Unit := ()
def PySem.W.Fast.tw7596682769502089689 : Unit := ()
def PySem.W.Fast.tw8005411659315244111 : Unit := ()
def PySem.W.Fast.tw8572200563349681357 : Unit := ()
def PySem.W.Fast.tw89719989888590609 : Unit := ()
def PySem.W.Fast.tw9131880256558475785 : Unit := ()
open PySem PySem.W PyProof.Rows
set_option maxRecDepth 100000 in
set_option maxHeartbeats 0 in
theorem PySem.Challenge.cw_boardsight_k59_areas_holds : PySem.Challenge.rw_boardsight_k59_areas.Holds := by
  w_on; o_law; k_head; (case hw => w_witness2)
  k_fill
  refine My.walk (l := PySem.Challenge.rw_boardsight_k59_areas) rfl rfl (fun w h Y => PySem.W.kIn_of Y) ?F
  case F =>
    intro w mg fa h KX G hmg
    refine' My.all_mk KX G hmg ?aS0 ?aF ?lF ?cF ?kF ?lD ?hD ?aG ?lG ?cG ?kG ?lE ?hE ?a0 ?l0 ?c0 ?k0 ?a1 ?l1 ?c1 ?k1 ?a2 ?l2 ?c2 ?k2 ?a3 ?l3 ?c3 ?k3 ?a4 ?l4 ?c4 ?k4 ?a5 ?l5 ?c5 ?k5 ?a6 ?l6 ?c6 ?k6 ?a7 ?l7 ?c7 ?k7 ?a8 ?l8 ?c8 ?k8 ?a9 ?l9 ?c9 ?k9 ?a10 ?l10 ?c10 ?k10 ?a11 ?l11 ?c11 ?k11 ?a12 ?l12 ?c12 ?k12 ?a13 ?l13 ?c13 ?k13 ?a14 ?l14 ?c14 ?k14 ?a15 ?l15 ?c15 ?k15 ?a16 ?l16 ?c16 ?k16 ?a17 ?l17 ?c17 ?k17 ?a18 ?l18 ?c18 ?k18 ?a19 ?l19 ?c19 ?k19 ?a20 ?l20 ?c20 ?k20 ?a21 ?l21 ?c21 ?k21 ?a22 ?l22 ?c22 ?k22 ?a23 ?l23 ?c23 ?k23 ?a24 ?l24 ?c24 ?k24 ?a25 ?l25 ?c25 ?k25 ?a26 ?l26 ?c26 ?k26 ?a27 ?l27 ?c27 ?k27 ?a28 ?l28 ?c28 ?k28 ?a29 ?l29 ?c29 ?k29 ?a30 ?l30 ?c30 ?k30 ?a31 ?l31 ?c31 ?k31 ?a32 ?l32 ?c32 ?k32 ?a33 ?l33 ?c33 ?k33 ?a34 ?l34 ?c34 ?k34 ?a35 ?l35 ?c35 ?k35 ?a36 ?l36 ?c36 ?k36 ?a37 ?l37 ?c37 ?k37 ?a38 ?l38 ?c38 ?k38 ?a39 ?l39 ?c39 ?k39 ?z0 ?z1 ?z2 ?z3 ?z4 ?z5 ?z6 ?z7 ?z8 ?z9 ?z10 ?z11 ?z12 ?z13
    (case aS0 => k_is)
    (case aF => k_is)
    (case lF => k_is)
    (case cF => k_is)
    (case kF => k_is)
    (case lD => k_is)
    (case hD => first | rfl | k_is)
    (case aG => k_is)
    (case lG => k_is)
    (case cG => k_is)
    (case kG => k_is)
    (case lE => k_is)
    (case hE => first | rfl | k_is)
    (case a0 => k_is)
    (case l0 => k_is)
    (case c0 => k_is)
    (case k0 => k_is)
    (case a1 => k_is)
    (case l1 => k_is)
    (case c1 => k_is)
    (case k1 => k_is)
    (case a2 => k_is)
    (case l2 => k_is)
    (case c2 => k_is)
    (case k2 => k_is)
    (case a3 => k_is)
    (case l3 => k_is)
    (case c3 => k_is)
    (case k3 => k_is)
    (case a4 => k_is)
    (case l4 => k_is)
    (case c4 => k_is)
    (case k4 => k_is)
    (case a5 => k_is)
    (case l5 => k_is)
    (case c5 => k_is)
    (case k5 => k_is)
    (case a6 => k_is)
    (case l6 => k_is)
    (case c6 => k_is)
    (case k6 => k_is)
    (case a7 => k_is)
    (case l7 => k_is)
    (case c7 => k_is)
    (case k7 => k_is)
    (case a8 => k_is)
    (case l8 => k_is)
    (case c8 => k_is)
    (case k8 => k_is)
    (case a9 => k_is)
    (case l9 => k_is)
    (case c9 => k_is)
    (case k9 => k_is)
    (case a10 => k_is)
    (case l10 => k_is)
    (case c10 => k_is)
    (case k10 => k_is)
    (case a11 => k_is)
    (case l11 => k_is)
    (case c11 => k_is)
    (case k11 => k_is)
    (case a12 => k_is)
    (case l12 => k_is)
    (case c12 => k_is)
    (case k12 => k_is)
    (case a13 => k_is)
    (case l13 => k_is)
    (case c13 => k_is)
    (case k13 => k_is)
    (case a14 => k_is)
    (case l14 => k_is)
    (case c14 => k_is)
    (case k14 => k_is)
    (case a15 => k_is)
    (case l15 => k_is)
    (case c15 => k_is)
    (case k15 => k_is)
    (case a16 => k_is)
    (case l16 => k_is)
    (case c16 => k_is)
    (case k16 => k_is)
    (case a17 => k_is)
    (case l17 => k_is)
    (case c17 => k_is)
    (case k17 => k_is)
    (case a18 => k_is)
    (case l18 => k_is)
    (case c18 => k_is)
    (case k18 => k_is)
    (case a19 => k_is)
    (case l19 => k_is)
    (case c19 => k_is)
    (case k19 => k_is)
    (case a20 => k_is)
    (case l20 => k_is)
    (case c20 => k_is)
    (case k20 => k_is)
    (case a21 => k_is)
    (case l21 => k_is)
    (case c21 => k_is)
    (case k21 => k_is)
    (case a22 => k_is)
    (case l22 => k_is)
    (case c22 => k_is)
    (case k22 => k_is)
    (case a23 => k_is)
    (case l23 => k_is)
    (case c23 => k_is)
    (case k23 => k_is)
    (case a24 => k_is)
    (case l24 => k_is)
    (case c24 => k_is)
    (case k24 => k_is)
    (case a25 => k_is)
    (case l25 => k_is)
    (case c25 => k_is)
    (case k25 => k_is)
    (case a26 => k_is)
    (case l26 => k_is)
    (case c26 => k_is)
    (case k26 => k_is)
    (case a27 => k_is)
    (case l27 => k_is)
    (case c27 => k_is)
    (case k27 => k_is)
    (case a28 => k_is)
    (case l28 => k_is)
    (case c28 => k_is)
    (case k28 => k_is)
    (case a29 => k_is)
    (case l29 => k_is)
    (case c29 => k_is)
    (case k29 => k_is)
    (case a30 => k_is)
    (case l30 => k_is)
    (case c30 => k_is)
    (case k30 => k_is)
    (case a31 => k_is)
    (case l31 => k_is)
    (case c31 => k_is)
    (case k31 => k_is)
    (case a32 => k_is)
    (case l32 => k_is)
    (case c32 => k_is)
    (case k32 => k_is)
    (case a33 => k_is)
    (case l33 => k_is)
    (case c33 => k_is)
    (case k33 => k_is)
    (case a34 => k_is)
    (case l34 => k_is)
    (case c34 => k_is)
    (case k34 => k_is)
    (case a35 => k_is)
    (case l35 => k_is)
    (case c35 => k_is)
    (case k35 => k_is)
    (case a36 => k_is)
    (case l36 => k_is)
    (case c36 => k_is)
    (case k36 => k_is)
    (case a37 => k_is)
    (case l37 => k_is)
    (case c37 => k_is)
    (case k37 => k_is)
    (case a38 => k_is)
    (case l38 => k_is)
    (case c38 => k_is)
    (case k38 => k_is)
    (case a39 => k_is)
    (case l39 => k_is)
    (case c39 => k_is)
    (case k39 => k_is)
    (case z0 => k_is)
    (case z1 => k_is)
    (case z2 => k_is)
    (case z3 => k_is)
    (case z4 => k_is)
    (case z5 => k_is)
    (case z6 => k_is)
    (case z7 => k_is)
    (case z8 => k_is)
    (case z9 => k_is)
    (case z10 => k_is)
    (case z11 => k_is)
    (case z12 => k_is)
    (case z13 => k_is)

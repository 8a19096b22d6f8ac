import PyProof.Rows.All
import Wide.All
import OpenK.AllK
import Wide.FinOn
import Lean
import PyProof.EqAt
import PyProof.EqKinds
import PyProof.TupleCall
-- CHANGE: your row's module here, as the last of these rows
import PySem.Challenge.RW_boardsight_k13_boards_refused

set_option Elab.async false
set_option linter.all false
set_option maxRecDepth 100000
/-! THE HAND LAYER, for ints, bools, texts, own classes, LISTS and tuples (index, slices, in, append, pop ..), calls, loops. Paste it whole ahead of your own text; what your proof does not reach may be deleted. -/
namespace L2
open PySem PySem.Spec PyProof.Rows

/-- a key: an int or a str -/
abbrev Key := Sum Int Str
def keyIs : Key → Value → Bool
  | .inl k, v => Value.isInt k v
  | .inr x, v => Value.isStrOf x v
def keyH (w : World) : Key → Int
  | .inl k => hashInt k
  | .inr x => hashStr w x
theorem keyIs_shape : ∀ {k : Key} {v : Value}, keyIs k v = true → (∃ i t, k = Sum.inl i ∧ v = Value.int i t) ∨ (∃ x t, k = Sum.inr x ∧ v = Value.str x t)
  | .inl i, v, h => by
    obtain ⟨t, e⟩ := Value.isInt_shape (k := i) (v := v) h
    exact .inl ⟨i, t, rfl, e⟩
  | .inr x, v, h => by
    obtain ⟨t, e⟩ := Value.isStrOf_shape (x := x) (v := v) h
    exact .inr ⟨x, t, rfl, e⟩
theorem key_ll (a b : Int) : decide ((Sum.inl a : Key) = Sum.inl b) = (a == b) := by
  by_cases e : a = b
  · subst e; simp
  · have h : ¬ (Sum.inl a : Key) = Sum.inl b := fun q => e (Sum.inl.inj q)
    rw [decide_eq_false h]
    exact (beq_eq_false_iff_ne.mpr e).symm
theorem key_rr (a b : Str) : decide ((Sum.inr a : Key) = Sum.inr b) = decide (a = b) := by
  by_cases e : a = b
  · subst e; simp
  · have h : ¬ (Sum.inr a : Key) = Sum.inr b := fun q => e (Sum.inr.inj q)
    rw [decide_eq_false h, decide_eq_false e]
theorem key_lr (a : Int) (b : Str) : decide ((Sum.inl a : Key) = Sum.inr b) = false := decide_eq_false (fun q => nomatch q)
theorem key_rl (a : Str) (b : Int) : decide ((Sum.inr a : Key) = Sum.inl b) = false := decide_eq_false (fun q => nomatch q)

def mixKind (prog : Program) (w : World) : PySem.KeyKind prog w Key where
  is := keyIs
  hash := keyH w
  inj := fun v a b ha hb => by
    rcases keyIs_shape ha with ⟨i, t, rfl, rfl⟩ | ⟨x, t, rfl, rfl⟩
    · rcases keyIs_shape hb with ⟨j, u, rfl, e⟩ | ⟨y, u, rfl, e⟩
      · injection e with e1 _; rw [e1]
      · exact nomatch e
    · rcases keyIs_shape hb with ⟨j, u, rfl, e⟩ | ⟨y, u, rfl, e⟩
      · exact nomatch e
      · injection e with e1 _; rw [e1]
  byValue := fun k v h => by
    rcases keyIs_shape h with ⟨i, t, rfl, rfl⟩ | ⟨x, t, rfl, rfl⟩ <;> rfl
  pyHash := fun hv h => by
    rcases keyIs_shape hv with ⟨i, t, rfl, rfl⟩ | ⟨x, t, rfl, rfl⟩
    · exact wpAny_pyHash_int h
    · exact wpAny_pyHash_str h
  eqBool := fun hu hv h => by
    rcases keyIs_shape hu with ⟨i, t, rfl, rfl⟩ | ⟨x, t, rfl, rfl⟩
    · rcases keyIs_shape hv with ⟨j, u, rfl, rfl⟩ | ⟨y, u, rfl, rfl⟩
      · rw [key_ll] at h; exact wpAny_eqBool_int h
      · rw [key_lr] at h; exact SeqAt.EqAt.int_str i t y u _ _ _ _ h
    · rcases keyIs_shape hv with ⟨j, u, rfl, rfl⟩ | ⟨y, u, rfl, rfl⟩
      · rw [key_rl] at h; exact SeqAt.EqAt.str_int x t j u _ _ _ _ h
      · rw [key_rr] at h; exact wpAny_eqBool_str h
  «strs» := fun k x t v h => by
    rcases keyIs_shape h with ⟨i, u, rfl, e⟩ | ⟨y, u, rfl, e⟩
    · exact nomatch e
    · injection e with e1 _
      subst e1
      cases v <;> rfl

end L2

namespace L2
open PySem PySem.Spec PyProof.Rows

/-- a value, without the heap -/
inductive V where
  | non | bl (b : Bool) | int (i : Int) | str (x : Str) | byt (b : Array UInt8) | flt (b : UInt64) | ref (a : Addr) | ty (n : String)
  deriving DecidableEq

def RelV : V → Value → Prop
  | .non, u => u = Value.none
  | .bl b, u => u = Value.bool b
  | .int i, u => ∃ t, u = Value.int i t
  | .str x, u => ∃ t, u = Value.str x t
  | .byt b, u => ∃ t, u = Value.bytes b t
  | .flt b, u => ∃ t, u = Value.float b t
  | .ref a, u => u = Value.ref a
  | .ty n, u => u = Value.type n

abbrev Vals : List V → List Value → Prop := Paired RelV
theorem Vals.length {xs : List V} {us : List Value} (r : Vals xs us) : xs.length = us.length := Paired.length r
theorem Vals.get : ∀ {xs : List V} {us : List Value} {i : Nat} {x : V}, Vals xs us → xs[i]? = some x → ∃ u, us[i]? = some u ∧ RelV x u
  | _, _, _, _, .nil, e => by simp at e
  | _, _, 0, _, .cons r _, e => by simp at e; subst e; exact ⟨_, rfl, r⟩
  | _, _, i + 1, x, .cons _ t, e => by
    obtain ⟨u, h1, h2⟩ := Vals.get (i := i) (x := x) t (by simpa using e)
    exact ⟨u, by simpa using h1, h2⟩
theorem Vals.set {x : V} {u : Value} (r : RelV x u) : ∀ {xs : List V} {us : List Value} (i : Nat), Vals xs us → Vals (xs.set i x) (us.set i u)
  | _, _, _, .nil => .nil
  | _, _, 0, .cons _ t => .cons r t
  | _, _, i + 1, .cons q t => .cons q (Vals.set r i t)
theorem Vals.append : ∀ {xs ys : List V} {us ws : List Value}, Vals xs us → Vals ys ws → Vals (xs ++ ys) (us ++ ws)
  | _, _, _, _, .nil, s => s
  | _, _, _, _, .cons r t, s => .cons r (Vals.append t s)
theorem Vals.take : ∀ {xs : List V} {us : List Value} (n : Nat), Vals xs us → Vals (xs.take n) (us.take n)
  | _, _, 0, _ => .nil
  | _, _, _ + 1, .nil => .nil
  | _, _, n + 1, .cons r t => .cons r (Vals.take n t)
theorem Vals.drop : ∀ {xs : List V} {us : List Value} (n : Nat), Vals xs us → Vals (xs.drop n) (us.drop n)
  | _, _, 0, r => r
  | _, _, _ + 1, .nil => .nil
  | _, _, n + 1, .cons _ t => Vals.drop n t
def RelO : Option V → Option Value → Prop
  | some v, some u => RelV v u
  | none, none => True
  | _, _ => False
def KV {κ : Type} : List (κ × V) → List (κ × Value) → Prop := Paired fun (p : κ × V) (q : κ × Value) => p.1 = q.1 ∧ RelV p.2 q.2

/-- a key of a dict (00_mix): an int or a text -/
def kV : Key → V
  | .inl i => .int i
  | .inr x => .str x

/-- what stands at a tracked address -/
inductive HO where
  /-- a list -/
  | lst (xs : List V)
  /-- a tuple (never changes) -/
  | tup (xs : List V)
  /-- a dict whose keys are ints and texts; one whose keys are tuples of ints and texts (the empty one is both) -/
  | dK (kvs : List (Key × V)) | dT (kvs : List (List Key × V))
  /-- a set of ints: its members, its size -/
  | set (S : Int → Bool) (n : Nat)
  /-- an instance of the class at C, its dict at dx, its attributes -/
  | ins (C dx : Addr) (fs : List (Str × V))
  /-- the dict of the instance at x -/
  | own (x : Addr)
  /-- the dict of an exception -/
  | xd (fs : List (Str × V))
  /-- a bound method, f of x -/
  | met (f x : Addr)
  /-- a range object lo, lo + 1, .. below hi -/
  | rng (lo hi : Int)
  /-- a thing that is known to the object (the script; a dict while a loop walks it): read, never written while it is so -/
  | frz (o : Obj) (u : HO)
  /-- a code object's table -/
  | tbl (ps : Array Value)
  /-- any other thing, by what is true of its one object (a def of one's own: SetO a S n := HO.ext fun h => ..) -/
  | ext (φ : Heap → Prop)

abbrev Hp := Addr → Option HO
def upd (H : Hp) (a : Addr) (o : HO) : Hp := fun b => if b = a then some o else H b
theorem upd_same {H : Hp} {a : Addr} {o : HO} : upd H a o a = some o := by unfold upd; rw [if_pos rfl]
theorem upd_ne {H : Hp} {a b : Addr} {o : HO} (h : b ≠ a) : upd H a o b = H b := by unfold upd; rw [if_neg h]
theorem upd_upd {H : Hp} {a : Addr} {o u : HO} : upd (upd H a o) a u = upd H a u := by
  funext b; unfold upd; split <;> rfl
theorem ne_of_none {H : Hp} {a b : Addr} {o : HO} (h : H a = some o) (h' : H b = none) : a ≠ b := by
  intro e; subst e; rw [h] at h'; cases h'

section
variable (P : Program) (w : World)
def ObjOk (H : Hp) (h : Heap) (a : Addr) : HO → Prop
  | .lst xs => xs.length ≤ sizeLine ∧ ∃ (its : List Value) (n : Nat), Vals xs its ∧ h.get? a = some { cls := .type "list", data := .seq its.toArray n }
  | .tup xs => xs.length ≤ sizeLine ∧ ∃ its : List Value, Vals xs its ∧ IsTup h a its.toArray
  | .dK kvs => kvs.length ≤ sizeLine ∧ (a == sysModules) = false ∧ ∃ vs, KV kvs vs ∧ h.DictOf (mixKind P w) a vs
  | .dT kvs => kvs.length ≤ sizeLine ∧ (a == sysModules) = false ∧ ∃ xs : List (List Key × Addr × Value),
      Paired (fun (p : List Key × V) (q : List Key × Addr × Value) => p.1 = q.1 ∧ H q.2.1 = some (.tup (p.1.map kV)) ∧ RelV p.2 q.2.2) kvs xs ∧
      ∃ o es ep, h.get? a = some o ∧ o.ExactDict ∧ o.data = .dict es ep ∧ es.toList = xs.map (entryOfKey (tupleKind (mixKind P w))) ∧ (xs.map (·.1)).Nodup
  | .set S n => h.SetOf (intKind P w) a S n
  | .ins C dx fs => H dx = some (.own a) ∧ fs.length ≤ 1000 ∧ dx ≠ a ∧ h.get? a = some (PySem.W.instObj C dx) ∧
      ∃ mA, h.Ns1 dx mA ∧ (∀ f, RelO (fs.lookup f) (mA f)) ∧ PySem.Within mA (fs.map (·.1))
  | .own _ => ∃ o, h.get? a = some o
  | .xd fs => ∃ mA, h.Ns1 a mA ∧ ∀ f, RelO (fs.lookup f) (mA f)
  | .rng lo hi => ∃ t u v, h.get? a = some { cls := .type "range", data := .fields #[.int lo t, .int hi u, .int 1 v] }
  | .frz o u => h.get? a = some o ∧ ObjOk H h a u
  | .tbl ps => h.get? a = some { cls := .none, data := .fields ps }
  | .met f x => h.get? a = some (PySem.W.methodObj (.ref f) (.ref x))
  | .ext φ => φ h ∧ (∃ o, h.get? a = some o) ∧ ∀ h1 h2 : Heap, φ h1 → (∀ o, h1.get? a = some o → h2.get? a = some o) → φ h2
/-- the abstract heap is held -/
def HOk (H : Hp) (h : Heap) : Prop := ∀ a o, H a = some o → ObjOk P w H h a o
end

section
variable {P : Program} {w : World} {H H' : Hp} {h h' : Heap} {a : Addr} {o : HO}
theorem ObjOk.lt (x : ObjOk P w H h a o) : a < h.objs.size := by
  cases o with
  | lst xs => obtain ⟨_, _, _, _, e⟩ := x; exact Heap.lt_size e
  | tup xs => obtain ⟨_, _, _, p⟩ := x; exact p.lt
  | dK kvs => obtain ⟨_, _, _, _, o, _, _, e, _⟩ := x; exact Heap.lt_size e
  | dT kvs => obtain ⟨_, _, _, _, o, _, _, e, _⟩ := x; exact Heap.lt_size e
  | set S n => obtain ⟨o, _, _, _, e, _⟩ := x; exact Heap.lt_size e
  | ins C dx fs => obtain ⟨_, _, _, e, _⟩ := x; exact Heap.lt_size e
  | own y => obtain ⟨_, e⟩ := x; exact Heap.lt_size e
  | xd fs => obtain ⟨_, ⟨_, _, _, e, _⟩, _⟩ := x; exact Heap.lt_size e
  | rng lo hi => obtain ⟨_, _, _, e⟩ := x; exact Heap.lt_size e
  | frz ob u => obtain ⟨e, _⟩ := x; exact Heap.lt_size e
  | tbl ps => exact Heap.lt_size (show h.get? a = some _ from x)
  | met f y => exact Heap.lt_size (show h.get? a = some _ from x)
  | ext φ => obtain ⟨_, ⟨_, e⟩, _⟩ := x; exact Heap.lt_size e
theorem Paired.mapP {α β : Type} {F G : α → β → Prop} : ∀ {l₁ : List α} {l₂ : List β}, Paired F l₁ l₂ → (∀ a b, F a b → G a b) → Paired G l₁ l₂
  | _, _, .nil, _ => .nil
  | _, _, .cons r t, f => .cons (f _ _ r) (Paired.mapP t f)
/-- what an object's description leans on: its own object, its own dict, the tuples -/
theorem ObjOk.stay (x : ObjOk P w H h a o) (k : ∀ b u, (b = a ∨ H b = some (.own a)) → h.get? b = some u → h'.get? b = some u)
    (ho : ∀ b, H b = some (.own a) → H' b = some (.own a)) (ht : ∀ b xs, H b = some (.tup xs) → H' b = some (.tup xs)) : ObjOk P w H' h' a o := by
  induction o with
  | lst xs => obtain ⟨z, its, n, r, e⟩ := x; exact ⟨z, its, n, r, k _ _ (.inl rfl) e⟩
  | tup xs => obtain ⟨z, its, r, ob, e, c⟩ := x; exact ⟨z, its, r, ob, k _ _ (.inl rfl) e, c⟩
  | dK kvs => obtain ⟨z, y, vs, r, ob, es, ep, e, c⟩ := x; exact ⟨z, y, vs, r, ob, es, ep, k _ _ (.inl rfl) e, c⟩
  | dT kvs =>
    obtain ⟨z, y, xs, r, ob, es, ep, e, c⟩ := x
    exact ⟨z, y, xs, Paired.mapP r fun p q z => ⟨z.1, ht _ _ z.2.1, z.2.2⟩, ob, es, ep, k _ _ (.inl rfl) e, c⟩
  | set S n => obtain ⟨ob, es, ep, t, e, c⟩ := x; exact ⟨ob, es, ep, t, k _ _ (.inl rfl) e, c⟩
  | ins C dx fs =>
    obtain ⟨d, z, ne, e, mA, ⟨od, es, ep, e2, c⟩, r⟩ := x
    exact ⟨ho _ d, z, ne, k _ _ (.inl rfl) e, mA, ⟨od, es, ep, k _ _ (.inr d) e2, c⟩, r⟩
  | own y => obtain ⟨ob, e⟩ := x; exact ⟨ob, k _ _ (.inl rfl) e⟩
  | xd fs => obtain ⟨mA, ⟨od, es, ep, e, c⟩, r⟩ := x; exact ⟨mA, ⟨od, es, ep, k _ _ (.inl rfl) e, c⟩, r⟩
  | rng lo hi => obtain ⟨t, u, v, e⟩ := x; exact ⟨t, u, v, k _ _ (.inl rfl) e⟩
  | frz ob u ih => obtain ⟨e, q⟩ := x; exact ⟨k _ _ (.inl rfl) e, ih q⟩
  | tbl ps =>
    have e : h.get? a = some { cls := .none, data := .fields ps } := x
    show h'.get? a = some { cls := .none, data := .fields ps }
    exact k a _ (.inl rfl) e
  | met f y =>
    have e : h.get? a = some (PySem.W.methodObj (.ref f) (.ref y)) := x
    show h'.get? a = some (PySem.W.methodObj (.ref f) (.ref y))
    exact k a _ (.inl rfl) e
  | ext φ => obtain ⟨p, ⟨o, e⟩, st⟩ := x; exact ⟨st _ _ p fun o q => k _ _ (.inl rfl) q, ⟨o, k _ _ (.inl rfl) e⟩, st⟩
theorem HOk.lt (x : HOk P w H h) (e : H a = some o) : a < h.objs.size := (x a o e).lt
theorem HOk.fresh (x : HOk P w H h) (e : h.objs.size ≤ a) : H a = none := by
  cases q : H a with
  | none => rfl
  | some u => exact absurd (Nat.lt_of_lt_of_le (x.lt q) e) (Nat.lt_irrefl _)
/-- every object of the heap is kept -/
theorem HOk.kept (x : HOk P w H h) (k : ∀ b u, h.get? b = some u → h'.get? b = some u) : HOk P w H h' := fun a o e =>
  (x a o e).stay (fun b u _ q => k b u q) (fun _ q => q) fun _ _ q => q
/-- a new object is laid and tracked -/
theorem HOk.laid (x : HOk P w H h) (k : ∀ b u, h.get? b = some u → h'.get? b = some u) (hp : h.objs.size ≤ a) (new : ObjOk P w (upd H a o) h' a o) : HOk P w (upd H a o) h' := fun b u e => by
  have hn := x.fresh hp
  by_cases hb : b = a
  · subst hb; rw [upd_same] at e; cases e; exact new
  · rw [upd_ne hb] at e
    exact (x b u e).stay (fun c v _ q => k c v q) (fun c q => by rw [upd_ne (ne_of_none q hn)]; exact q) fun c xs q => by rw [upd_ne (ne_of_none q hn)]; exact q
end

/-- what may be read as u: it is u, or a known u -/
def Rd (H : Hp) (a : Addr) (u : HO) : Prop := H a = some u ∨ ∃ o, H a = some (.frz o u)
theorem Rd.of {H : Hp} {a : Addr} {u : HO} (h : H a = some u) : Rd H a u := .inl h
theorem Rd.ok {P : Program} {w : World} {H : Hp} {h : Heap} {a : Addr} {u : HO} (r : Rd H a u) (x : HOk P w H h) : ObjOk P w H h a u := by
  rcases r with r | ⟨o, r⟩
  · exact x a u r
  · obtain ⟨_, q⟩ := x a _ r
    exact q
/-- what may be written -/
def Mut : Option HO → Prop
  | some (.lst _) => True
  | some (.dK _) => True
  | some (.dT _) => True
  | some (.set _ _) => True
  | some (.ins _ _ _) => True
  | some (.ext _) => True
  | _ => False
section
variable {P : Program} {w : World} {H : Hp} {h h' : Heap} {x e : Addr} {o' : HO}
/-- the object at e is changed: x itself, or the dict of the instance x -/
theorem HOk.write (ok : HOk P w H h) (mu : Mut (H x)) (he : e = x ∨ H e = some (.own x)) (k : ∀ b u, b ≠ e → h.get? b = some u → h'.get? b = some u) (heo : ∃ u, h'.get? e = some u)
    (new : ObjOk P w (upd H x o') h' x o') : HOk P w (upd H x o') h' := fun b u q => by
  have nown : ∀ c y, H c = some (.own y) → c ≠ x := fun c y r z => by subst z; rw [r] at mu; exact mu
  have ntup : ∀ c xs, H c = some (.tup xs) → c ≠ x := fun c xs r z => by subst z; rw [r] at mu; exact mu
  by_cases hb : b = x
  · subst hb; rw [upd_same] at q; cases q; exact new
  · rw [upd_ne hb] at q
    by_cases hbe : b = e
    · have q' : H b = some (.own x) := by
        rcases he with z | z
        · exact absurd (hbe.trans z) hb
        · rw [hbe]; exact z
      rw [q] at q'; cases q'
      obtain ⟨v, hv⟩ := heo
      exact ⟨v, by rw [hbe]; exact hv⟩
    · refine (ok b u q).stay (fun c v hc r => k c v ?_ r) (fun c r => by rw [upd_ne (nown c b r)]; exact r) fun c xs r => by rw [upd_ne (ntup c xs r)]; exact r
      rcases hc with rfl | hc
      · exact hbe
      · rintro rfl
        rcases he with z | z
        · exact nown c b hc z
        · rw [hc] at z; cases z; exact hb rfl
end

/-! ### kept unless tracked; of the frames at fs (the callers') the slots may change (an exception that passes writes there); of the records at ex (iterators) nothing is said -/
structure Un (fs ex : List Addr) (H H' : Hp) (h h' : Heap) : Prop where
  keep : ∀ b o, h.get? b = some o → H b = none → b ∉ fs → b ∉ ex → h'.get? b = some o
  slot : ∀ b o, h.get? b = some o → H b = none → b ∈ fs → b ∉ ex → ∃ sl, h'.get? b = some { o with slots := sl }
  free : ∀ b o, h.get? b = some o → H b = none → b ∉ ex → H' b = none
  there : ∀ b o, h.get? b = some o → b ∉ ex → ∃ o', h'.get? b = some o'
  tups : ∀ b xs, H b = some (.tup xs) → H' b = some (.tup xs)
  frzs : ∀ b o u, H b = some (.frz o u) → H' b = some (.frz o u)
  tbls : ∀ b ps, H b = some (.tbl ps) → ∃ more, H' b = some (.tbl (ps ++ more))
section
variable {fs fs' ex ex' : List Addr} {H H1 H2 : Hp} {h h1 h2 h' : Heap} {a x e : Addr} {o : HO}
theorem Un.any (u : Un fs ex H H1 h h1) {b : Addr} {ob : Obj} (q : h.get? b = some ob) (n : H b = none) (hx : b ∉ ex) : ∃ sl, h1.get? b = some { ob with slots := sl } := by
  by_cases hb : b ∈ fs
  · exact u.slot b ob q n hb hx
  · exact ⟨ob.slots, u.keep b ob q n hb hx⟩
theorem Un.trans (a : Un fs ex H H1 h h1) (b : Un fs ex H1 H2 h1 h2) : Un fs ex H H2 h h2 where
  keep := fun c ob q n hc hx => b.keep c ob (a.keep c ob q n hc hx) (a.free c ob q n hx) hc hx
  slot := fun c ob q n hc hx => by
    obtain ⟨sl, e1⟩ := a.slot c ob q n hc hx
    obtain ⟨sl', e2⟩ := b.slot c _ e1 (a.free c ob q n hx) hc hx
    exact ⟨sl', e2⟩
  free := fun c ob q n hx => by
    obtain ⟨o', e1⟩ := a.there c ob q hx
    exact b.free c o' e1 (a.free c ob q n hx) hx
  there := fun c ob q hx => by
    obtain ⟨o', e1⟩ := a.there c ob q hx
    exact b.there c o' e1 hx
  tups := fun c xs q => b.tups c xs (a.tups c xs q)
  frzs := fun c ob xs q => b.frzs c ob xs (a.frzs c ob xs q)
  tbls := fun c ps q => by
    obtain ⟨m1, e1⟩ := a.tbls c ps q
    obtain ⟨m2, e2⟩ := b.tbls c _ e1
    exact ⟨m1 ++ m2, by rw [e2, Array.append_assoc]⟩
theorem Un.kept (k : ∀ b u, h.get? b = some u → h'.get? b = some u) : Un fs ex H H h h' :=
  ⟨fun b ob q _ _ _ => k b ob q, fun b ob q _ _ _ => ⟨ob.slots, k b ob q⟩, fun _ _ _ n _ => n, fun b ob q _ => ⟨ob, k b ob q⟩, fun _ _ q => q, fun _ _ _ q => q, fun _ ps q => ⟨#[], by rw [q]; simp⟩⟩
theorem Un.refl : Un fs ex H H h h := Un.kept fun _ _ q => q
theorem Un.laid (k : ∀ b u, h.get? b = some u → h'.get? b = some u) (hp : h.objs.size ≤ a) (hn : H a = none) : Un fs ex H (upd H a o) h h' where
  keep := fun b u q _ _ _ => k b u q
  slot := fun b u q _ _ _ => ⟨u.slots, k b u q⟩
  free := fun b u q n _ => by rw [upd_ne (Nat.ne_of_lt (Nat.lt_of_lt_of_le (Heap.lt_size q) hp))]; exact n
  there := fun b u q _ => ⟨u, k b u q⟩
  tups := fun b xs q => by rw [upd_ne (ne_of_none q hn)]; exact q
  frzs := fun b u xs q => by rw [upd_ne (ne_of_none q hn)]; exact q
  tbls := fun b ps q => ⟨#[], by rw [upd_ne (ne_of_none q hn), q]; simp⟩
theorem Un.write (mu : Mut (H x)) (he : e = x ∨ H e = some (.own x)) (k : ∀ b u, b ≠ e → h.get? b = some u → h'.get? b = some u) (heo : ∃ u, h'.get? e = some u) : Un fs ex H (upd H x o) h h' := by
  have hx : ∀ b, H b = none → b ≠ x := fun b n z => by subst z; rw [n] at mu; exact mu
  have hb : ∀ b, H b = none → b ≠ e := fun b n z => by
    subst z
    rcases he with r | r
    · exact hx b n r
    · rw [n] at r; cases r
  have hm : ∀ b u, H b = some u → ¬ Mut (some u) → b ≠ x := fun b u q nm z => by subst z; rw [q] at mu; exact nm mu
  refine ⟨fun b u q n _ _ => k b u (hb b n) q, fun b u q n _ _ => ⟨u.slots, k b u (hb b n) q⟩, fun b u q n _ => by rw [upd_ne (hx b n)]; exact n, fun b u q _ => ?_,
    fun b xs q => by rw [upd_ne (hm b _ q fun z => z)]; exact q, fun b u xs q => by rw [upd_ne (hm b _ q fun z => z)]; exact q, fun b ps q => ⟨#[], by rw [upd_ne (hm b _ q fun z => z), q]; simp⟩⟩
  by_cases hbe : b = e
  · subst hbe; exact heo
  · exact ⟨u, k b u hbe q⟩
theorem Un.mono (u : Un fs ex H H1 h h1) (hs : ∀ b ∈ fs, b ∈ fs') (hx : ∀ b ∈ ex, b ∈ ex') : Un fs' ex' H H1 h h1 :=
  ⟨fun b ob q n hb he => u.keep b ob q n (fun z => hb (hs b z)) fun z => he (hx b z), fun _ _ q n _ he => u.any q n fun z => he (hx _ z), fun b ob q n he => u.free b ob q n fun z => he (hx b z), fun b ob q he => u.there b ob q fun z => he (hx b z), u.tups, u.frzs, u.tbls⟩
end

/-! ### the heap without what is tracked -/
def trk (h : Heap) (H : Hp) : List Addr := (List.range h.objs.size).filter fun a => (H a).isSome
def hidT (h : Heap) (H : Hp) : Heap := PySem.W.hideAll h (trk h H)
theorem hidT_size (h : Heap) (H : Hp) : (hidT h H).objs.size = h.objs.size := PySem.W.hideAll_size _ _
theorem hidT_get {h : Heap} {H : Hp} {b : Addr} {o : Obj} (e : h.get? b = some o) (n : H b = none) : (hidT h H).get? b = some o :=
  PySem.W.hideAll_get _ e fun hm => by
    have q : (H b).isSome = true := (List.mem_filter.mp hm).2
    rw [n] at q; simp at q
theorem of_hidT {h : Heap} {H : Hp} {b : Addr} {o : Obj} (e : (hidT h H).get? b = some o) : h.get? b = some o ∧ H b = none := by
  have e' : h.get? b = some o := PySem.W.of_hideAll (trk h H) e
  refine ⟨e', ?_⟩
  cases q : H b with
  | none => rfl
  | some x =>
    have hm : b ∈ trk h H := List.mem_filter.mpr ⟨List.mem_range.mpr (Heap.lt_size e'), by simp [q]⟩
    have z : (hidT h H).get? b = none := PySem.W.hideAll_none (trk h H) hm
    rw [z] at e; cases e

/-! ### OpenK's ledger, filled with every new object but one -/
def allNews (g h : Heap) (L : Addr) : List (Addr × Obj) := (List.range h.objs.size).filterMap fun a => if a = L ∨ (g.get? a).isSome = true then none else (h.get? a).map fun o => (a, o)
def rest (g h : Heap) (L d : Addr) : List (Addr × Obj) := (allNews g h L).filter fun p => decide (p.1 ≠ d)
end L2

namespace L2
open PySem PySem.Spec PyProof.Rows

/-- the module's facts, over the base: the heap at the law's entry without what is tracked there -/
structure Mod (K : PySem.W.Frag) (mg : Str → Option Value) (base : Heap) : Prop where
  kin : K.In base
  glob : base.Ns mainGlobals mg
  blt : ∃ mb, base.Ns builtinsNs mb ∧ ∀ x : Str, x ≠ "__name__" → mb x = bootBuiltins x
  nolimit : base.NoLimit

/-- the context: a def's body (or a comprehension's block) running. base: fixed through the whole law; s₀, H₀: the entry; outer: the frames whose slots others may change (a def's callers); stack: all frames that run;
   ex: iterators that were made ahead of the entry and are walked here (a comprehension's); fn: the names whose cells were made at the entry (a def: all; a comprehension's block: its own); calm: not within an except suite; pn: pins that every state bears; xe: what is wanted of an exception that leaves the code -/
structure Cx where
  prog : Program
  w : World
  K : PySem.W.Frag
  mg : Str → Option Value
  base : Heap
  A : Around
  N : List Str
  s₀ : Shared
  H₀ : Hp
  env : Env
  outer : List Env
  stack : List Env
  ex : List Addr
  fn : Str → Bool
  calm : Bool
  pn : List (Addr × Obj)
  xe : Value → Shared → Prop
/-- the callers' frames -/
def frs (l : List Env) : List Addr := l.filterMap (·.frame)
abbrev Cx.fs (X : Cx) : List Addr := frs X.outer

def Vis (sc : Scope) (x : Str) : Prop := sc.names.lookup x = some .local ∨ sc.names.lookup x = some .cell ∨ sc.names.lookup x = some .free
def Loc (sc : Scope) (x : Str) : Prop := sc.names.lookup x = some .local ∨ sc.names.lookup x = some .cell
def Look (env : Env) (h : Heap) (m : Str → Option Value) (x : Str) (u : Value) : Prop :=
  (env.kindOf x = some .local ∧ m x = some u) ∨ ((env.kindOf x = some .cell ∨ env.kindOf x = some .free) ∧ ∃ c, env.cells.lookup x = some c ∧ h.IsCell c (some u))

structure Cx.Ok (X : Cx) : Prop where
  mod : Mod X.K X.mg X.base
  kind : X.env.scope.kind = .function
  glob : X.env.globals = mainGlobals
  blt : X.env.builtins = builtinsNs
  above : X.s₀.heap.objs.size ≤ X.env.locals
  inj : ∀ x y c, X.env.cells.lookup x = some c → X.env.cells.lookup y = some c → x = y
  has : ∀ x, (X.env.kindOf x = some .cell ∨ X.env.kindOf x = some .free) → ∃ c, X.env.cells.lookup x = some c
  cab : ∀ x c, X.fn x = true → X.env.cells.lookup x = some c → X.s₀.heap.objs.size ≤ c
  hd : X.calm = true → X.A.handled = none
  frames : X.A.frames = some X.stack
  stk : X.stack = X.outer ∨ (X.stack = X.env :: X.outer ∧ X.env.frame = some X.env.locals)
  exf : ∀ b ∈ X.ex, b ≠ X.env.locals ∧ ∀ x c, X.env.cells.lookup x = some c → c ≠ b
  bs : ∀ b o, X.base.get? b = some o → X.s₀.heap.get? b = some o ∧ X.H₀ b = none
  bsz : X.base.objs.size ≤ X.s₀.heap.objs.size
  noex : ∀ b o, X.base.get? b = some o → b ∉ X.ex
  exfs : ∀ b ∈ X.ex, b ∉ X.fs
  funs : X.s₀.heap.FunFrames X.base X.outer
  frf : ∀ b ∈ X.fs, X.H₀ b = none

structure Inv (X : Cx) (pins : List (Addr × Obj)) (σ : List (Option V)) (H : Hp) (s : Shared) : Prop where
  ok : X.Ok
  os : s.os = X.s₀.os
  bare : AllBare s.gens
  base : Un X.fs X.ex X.H₀ H X.s₀.heap s.heap
  loc : ∃ m, s.heap.Ns X.env.locals m ∧ ∀ (i : Nat) (x : Str) (v : V), X.N[i]? = some x → σ[i]? = some (some v) → Vis X.env.scope x → ∃ u, RelV v u ∧ Look X.env s.heap m x u
  cell : ∀ x c, X.env.cells.lookup x = some c → ∃ v, s.heap.IsCell c v
  free : H X.env.locals = none
  freeC : ∀ x c, X.env.cells.lookup x = some c → H c = none
  pin : ∀ p ∈ X.pn ++ pins, s.heap.get? p.1 = some p.2 ∧ H p.1 = none ∧ p.1 ≠ X.env.locals ∧ p.1 ∉ X.fs ∧ ∀ v, p.2.data ≠ .cell v
  hok : HOk X.prog X.w H s.heap
  len : σ.length = X.N.length

section
variable {X : Cx} {pins : List (Addr × Obj)} {σ : List (Option V)} {H H' : Hp} {s : Shared} {h' : Heap}

theorem Cx.Ok.nofr (ok : X.Ok) {b : Addr} {o : Obj} (e : X.base.get? b = some o) : b ∉ X.fs := fun hb => by
  have := (ok.funs.mem hb).1
  rw [e] at this; cases this
theorem Inv.bs (I : Inv X pins σ H s) : ∀ b o, X.base.get? b = some o → s.heap.get? b = some o ∧ H b = none := fun b o e =>
  ⟨I.base.keep b o (I.ok.bs b o e).1 (I.ok.bs b o e).2 (I.ok.nofr e) (I.ok.noex b o e), I.base.free b o (I.ok.bs b o e).1 (I.ok.bs b o e).2 (I.ok.noex b o e)⟩
theorem Inv.bk (I : Inv X pins σ H s) : ∀ b o, X.base.get? b = some o → s.heap.get? b = some o := fun b o e => (I.bs b o e).1
theorem Inv.mod (I : Inv X pins σ H s) : Mod X.K X.mg X.base := I.ok.mod
theorem Inv.kIn (I : Inv X pins σ H s) : X.K.In s.heap := I.ok.mod.kin.keeps I.bk
theorem Inv.nolimit (I : Inv X pins σ H s) : s.heap.NoLimit := I.ok.mod.nolimit.keeps I.bk
/-- the frame over the base: for OpenK's rules (K.In X.base is I.mod.kin) -/
theorem Inv.fr (I : Inv X pins σ H s) : ∃ m, Fr X.base X.env.locals s.heap m :=
  let ⟨m, hn, _⟩ := I.loc
  ⟨m, hn, I.bk, Nat.le_trans I.ok.bsz I.ok.above⟩
theorem Inv.lt (I : Inv X pins σ H s) : X.env.locals < s.heap.objs.size := let ⟨_, hn, _⟩ := I.loc; hn.lt
theorem Inv.sz (I : Inv X pins σ H s) : X.s₀.heap.objs.size ≤ s.heap.objs.size := Nat.le_trans I.ok.above (Nat.le_of_lt I.lt)
theorem Inv.nofs (I : Inv X pins σ H s) {a : Addr} (h : s.heap.objs.size ≤ a) : a ∉ X.fs := fun hb => by
  obtain ⟨_, o, ho, _⟩ := I.ok.funs.mem hb
  exact absurd (Nat.lt_of_lt_of_le (Heap.lt_size ho) (Nat.le_trans I.sz h)) (Nat.lt_irrefl _)
theorem Inv.cne (I : Inv X pins σ H s) : ∀ x c, X.env.cells.lookup x = some c → c ≠ X.env.locals := fun x c e z => by
  obtain ⟨v, o, ho, hd⟩ := I.cell x c e
  obtain ⟨m, ⟨o', es, ep, ho', hd', _⟩, _⟩ := I.loc
  rw [z, ho'] at ho; cases ho; rw [hd'] at hd; cases hd
theorem Inv.funs (I : Inv X pins σ H s) : s.heap.FunFrames X.base X.outer := by
  have all : ∀ (l : List Env), (∀ b ∈ frs l, b ∈ X.fs) → X.s₀.heap.FunFrames X.base l → s.heap.FunFrames X.base l := by
    intro l
    induction l with
    | nil => intro _ _; trivial
    | cons env r ih =>
      intro hs hl
      obtain ⟨hk, ⟨L, o, hf, hn, ho, hd⟩, hr⟩ := hl
      have hL : L ∈ X.fs := hs L (by unfold frs; rw [List.filterMap_cons, hf]; exact List.mem_cons_self)
      obtain ⟨sl, e⟩ := I.base.slot L o ho (I.ok.frf L hL) hL fun z => I.ok.exfs L z hL
      exact ⟨hk, ⟨L, _, hf, hn, e, hd⟩, ih (fun b hb => hs b (by unfold frs; rw [List.filterMap_cons, hf]; exact List.mem_cons_of_mem _ hb)) hr⟩
  exact all X.outer (fun _ hb => hb) I.ok.funs

/-- the frames that run, for a call -/
theorem Inv.stack (I : Inv X pins σ H s) : s.heap.FunFrames X.base X.stack := by
  rcases I.ok.stk with e | ⟨e, hf⟩
  · rw [e]; exact I.funs
  · rw [e]
    obtain ⟨m, hn, _⟩ := I.loc
    refine .cons (by rw [I.ok.kind]; decide) hf hn ?_ I.funs
    exact Heap.get?_none_of_le (Nat.le_trans I.ok.bsz I.ok.above)
theorem Inv.stkSub (I : Inv X pins σ H s) : ∀ b ∈ frs X.stack, b ∈ X.env.locals :: X.fs := fun b hb => by
  rcases I.ok.stk with e | ⟨e, hf⟩
  · rw [e] at hb; exact List.mem_cons_of_mem _ hb
  · rw [e] at hb
    unfold frs at hb
    rw [List.filterMap_cons, hf] at hb
    exact hb
theorem Inv.stkFree (I : Inv X pins σ H s) : ∀ b ∈ frs X.stack, H b = none := fun b hb => by
  rcases List.mem_cons.mp (I.stkSub b hb) with e | hb
  · rw [e]; exact I.free
  · obtain ⟨_, o, ho, _⟩ := I.ok.funs.mem hb
    exact I.base.free b o ho (I.ok.frf b hb) fun z => I.ok.exfs b z hb

/-- THE STEP: the untracked objects but the frame and the records at ch are kept (the callers' frames up to slots), the frame's map is kept, the new abstract heap is held -/
theorem Inv.step {g' : Array GenState} {t' : Nat} {d' : Drawn} {ch : List Addr} (I : Inv X pins σ H s)
    (hch : ∀ b ∈ ch, (b ∈ X.ex ∨ X.s₀.heap.objs.size ≤ b) ∧ b ≠ X.env.locals ∧ (∀ x c, X.env.cells.lookup x = some c → c ≠ b) ∧ ∀ p ∈ X.pn ++ pins, p.1 ≠ b)
    (keep : ∀ b o, b ≠ X.env.locals → b ∉ X.fs → b ∉ ch → s.heap.get? b = some o → H b = none → h'.get? b = some o)
    (slot : ∀ b o, b ≠ X.env.locals → b ∈ X.fs → b ∉ ch → s.heap.get? b = some o → H b = none → ∃ sl, h'.get? b = some { o with slots := sl }) (free : ∀ b o, b ∉ ch → s.heap.get? b = some o → H b = none → H' b = none)
    (there : ∀ b o, b ∉ ch → s.heap.get? b = some o → ∃ o', h'.get? b = some o')
    (tups : ∀ b xs, H b = some (.tup xs) → H' b = some (.tup xs)) (frzs : ∀ b o u, H b = some (.frz o u) → H' b = some (.frz o u)) (tbls : ∀ b ps, H b = some (.tbl ps) → ∃ more, H' b = some (.tbl (ps ++ more)))
    (ns : ∀ m, s.heap.Ns X.env.locals m → h'.Ns X.env.locals m) (hok : HOk X.prog X.w H' h') (hg : AllBare g') :
    Inv X pins σ H' { s with heap := h', gens := g', drawn := d', toks := t' } := by
  have neL : ∀ b o, X.s₀.heap.get? b = some o → b ≠ X.env.locals := fun b o e => Nat.ne_of_lt (Nat.lt_of_lt_of_le (Heap.lt_size e) I.ok.above)
  have neC : ∀ b o, X.s₀.heap.get? b = some o → b ∉ X.ex → b ∉ ch := fun b o e hx hb => by
    rcases (hch b hb).1 with z | z
    · exact hx z
    · exact absurd (Nat.lt_of_lt_of_le (Heap.lt_size e) z) (Nat.lt_irrefl _)
  have cellK : ∀ x c, X.env.cells.lookup x = some c → ∀ v, s.heap.IsCell c v → h'.IsCell c v := fun x c e v ⟨o, ho, hd⟩ => by
    have nch : c ∉ ch := fun z => (hch c z).2.2.1 x c e rfl
    by_cases hc : c ∈ X.fs
    · obtain ⟨sl, q⟩ := slot c o (I.cne x c e) hc nch ho (I.freeC x c e)
      exact ⟨_, q, hd⟩
    · exact ⟨o, keep c o (I.cne x c e) hc nch ho (I.freeC x c e), hd⟩
  refine ⟨I.ok, I.os, hg, ⟨fun b o e n hb hx => ?_, fun b o e n hb hx => ?_, fun b o e n hx => ?_, fun b o e hx => ?_, fun b xs e => tups b xs (I.base.tups b xs e), fun b o xs e => frzs b o xs (I.base.frzs b o xs e), fun b ps e => ?_⟩, ?_, fun x c e => ?_, ?_, fun x c e => ?_, fun p hp => ?_, hok, I.len⟩
  · exact keep b o (neL b o e) hb (neC b o e hx) (I.base.keep b o e n hb hx) (I.base.free b o e n hx)
  · obtain ⟨sl, e1⟩ := I.base.slot b o e n hb hx
    obtain ⟨sl', e2⟩ := slot b _ (neL b o e) hb (neC b o e hx) e1 (I.base.free b o e n hx)
    exact ⟨sl', e2⟩
  · obtain ⟨o', e1⟩ := I.base.there b o e hx
    exact free b o' (neC b o e hx) e1 (I.base.free b o e n hx)
  · obtain ⟨o', e1⟩ := I.base.there b o e hx
    exact there b o' (neC b o e hx) e1
  · obtain ⟨m1, e1⟩ := I.base.tbls b ps e
    obtain ⟨m2, e2⟩ := tbls b _ e1
    exact ⟨m1 ++ m2, by rw [e2, Array.append_assoc]⟩
  · obtain ⟨m, hn, hl⟩ := I.loc
    refine ⟨m, ns m hn, fun i x v e1 e2 e3 => ?_⟩
    obtain ⟨u, r, l⟩ := hl i x v e1 e2 e3
    refine ⟨u, r, ?_⟩
    rcases l with l | ⟨k, c, e, z⟩
    · exact .inl l
    · exact .inr ⟨k, c, e, cellK x c e _ z⟩
  · obtain ⟨v, z⟩ := I.cell x c e
    exact ⟨v, cellK x c e v z⟩
  · obtain ⟨m, ⟨o, _, _, ho, _⟩, _⟩ := I.loc
    exact free _ o (fun z => (hch _ z).2.1 rfl) ho I.free
  · obtain ⟨v, o, ho, hd⟩ := I.cell x c e
    exact free c o (fun z => (hch c z).2.2.1 x c e rfl) ho (I.freeC x c e)
  · obtain ⟨e, n, ne, nf, d⟩ := I.pin p hp
    have nch : p.1 ∉ ch := fun z => (hch p.1 z).2.2.2 p hp rfl
    exact ⟨keep p.1 p.2 ne nf nch e n, free p.1 p.2 nch e n, ne, nf, d⟩
/-- .. where the frame's own object is kept too -/
theorem Inv.un {t' : Nat} (I : Inv X pins σ H s) (u : Un X.fs [] H H' s.heap h') (hok : HOk X.prog X.w H' h') : Inv X pins σ H' { s with heap := h', toks := t' } := by
  obtain ⟨m, ⟨o, es, ep, ho, r⟩, _⟩ := id I.loc
  obtain ⟨sl, hL⟩ := u.any ho I.free (by simp)
  exact I.step (g' := s.gens) (d' := s.drawn) (ch := []) (fun _ z => nomatch z) (fun b o _ hb _ e n => u.keep b o e n hb (by simp)) (fun b o _ hb _ e n => u.slot b o e n hb (by simp)) (fun b o _ e n => u.free b o e n (by simp)) (fun b o _ e => u.there b o e (by simp)) u.tups u.frzs u.tbls (fun m' hm => by
    obtain ⟨o', es', ep', ho', r'⟩ := hm
    rw [ho] at ho'; cases ho'
    exact ⟨_, es', ep', hL, r'⟩) hok I.bare
/-- behind a call (or a comprehension's block): the slots of this frame may have changed too, the records at ch may have turned -/
theorem Inv.call {g' : Array GenState} {t' : Nat} {d' : Drawn} {ch : List Addr} (I : Inv X pins σ H s) (u : Un (frs X.stack) ch H H' s.heap h') (hok : HOk X.prog X.w H' h') (hg : AllBare g')
    (hch : ∀ b ∈ ch, (b ∈ X.ex ∨ X.s₀.heap.objs.size ≤ b) ∧ b ≠ X.env.locals ∧ (∀ x c, X.env.cells.lookup x = some c → c ≠ b) ∧ ∀ p ∈ X.pn ++ pins, p.1 ≠ b) :
    Inv X pins σ H' { s with heap := h', gens := g', drawn := d', toks := t' } := by
  obtain ⟨m, ⟨o, es, ep, ho, r⟩, _⟩ := id I.loc
  obtain ⟨sl, hL⟩ := u.any ho I.free fun z => (hch _ z).2.1 rfl
  exact I.step (ch := ch) hch (fun b o hL hb hc e n => u.keep b o e n (fun z => (List.mem_cons.mp (I.stkSub b z)).elim hL hb) hc) (fun b o _ _ hc e n => u.any e n hc) (fun b o hc e n => u.free b o e n hc) (fun b o hc e => u.there b o e hc) u.tups u.frzs u.tbls (fun m' hm => by
    obtain ⟨o', es', ep', ho', r'⟩ := hm
    rw [ho] at ho'; cases ho'
    exact ⟨_, es', ep', hL, r'⟩) hok hg
/-- an untracked record of ours (an iterator) has turned -/
theorem Inv.turned {t' : Nat} {it : Addr} (I : Inv X pins σ H s) (k : ∀ b o, b ≠ it → s.heap.get? b = some o → h'.get? b = some o) (hn : H it = none) (hL : it ≠ X.env.locals)
    (h1 : it ∈ X.ex ∨ X.s₀.heap.objs.size ≤ it) (h2 : ∀ x c, X.env.cells.lookup x = some c → c ≠ it) (h3 : ∀ p ∈ X.pn ++ pins, p.1 ≠ it) : Inv X pins σ H { s with heap := h', toks := t' } := by
  have nit : ∀ b u, H b = some u → b ≠ it := fun b u e z => by rw [z, hn] at e; cases e
  refine I.step (g' := s.gens) (d' := s.drawn) (ch := [it]) (fun b hb => ?_) (fun b o _ _ hc e _ => k b o (fun z => hc (by simp [z])) e) (fun b o _ _ hc e _ => ⟨o.slots, k b o (fun z => hc (by simp [z])) e⟩) (fun _ _ _ _ n => n)
    (fun b o hc e => ⟨o, k b o (fun z => hc (by simp [z])) e⟩) (fun _ _ e => e) (fun _ _ _ e => e) (fun b ps e => ⟨#[], by rw [e]; simp⟩) (fun m hm => ?_) (fun b u e => ?_) I.bare
  · have e : b = it := by simpa using hb
    subst e
    exact ⟨h1, hL, h2, h3⟩
  · obtain ⟨o, es, ep, ho, r⟩ := hm
    exact ⟨o, es, ep, k _ o (Ne.symm hL) ho, r⟩
  · refine (I.hok b u e).stay (fun c v hc q => k c v ?_ q) (fun _ q => q) fun _ _ q => q
    rcases hc with z | z
    · rw [z]; exact nit b u e
    · exact nit c _ z
theorem Inv.tok (I : Inv X pins σ H s) (t : Nat) : Inv X pins σ H { s with toks := t } := I.un (h' := s.heap) (t' := t) Un.refl I.hok
/-- all objects kept -/
theorem Inv.kept {t' : Nat} (I : Inv X pins σ H s) (k : ∀ b u, s.heap.get? b = some u → h'.get? b = some u) : Inv X pins σ H { s with heap := h', toks := t' } := I.un (Un.kept k) (I.hok.kept k)
/-- a new object laid and tracked -/
theorem Inv.laid {a : Addr} {o : HO} {t' : Nat} (I : Inv X pins σ H s) (k : ∀ b u, s.heap.get? b = some u → h'.get? b = some u) (hp : s.heap.objs.size ≤ a) (new : ObjOk X.prog X.w (upd H a o) h' a o) :
    Inv X pins σ (upd H a o) { s with heap := h', toks := t' } := I.un (Un.laid k hp (I.hok.fresh hp)) (I.hok.laid k hp new)
/-- an object written -/
theorem Inv.write {x e : Addr} {o : HO} {t' : Nat} (I : Inv X pins σ H s) (mu : Mut (H x)) (he : e = x ∨ H e = some (.own x)) (k : ∀ b u, b ≠ e → s.heap.get? b = some u → h'.get? b = some u) (heo : ∃ u, h'.get? e = some u)
    (new : ObjOk X.prog X.w (upd H x o) h' x o) : Inv X pins σ (upd H x o) { s with heap := h', toks := t' } := I.un (Un.write mu he k heo) (I.hok.write mu he k heo new)
theorem Inv.pins_of {pins' : List (Addr × Obj)} (I : Inv X pins σ H s) (h : ∀ p ∈ pins', s.heap.get? p.1 = some p.2 ∧ H p.1 = none ∧ p.1 ≠ X.env.locals ∧ p.1 ∉ X.fs ∧ ∀ v, p.2.data ≠ .cell v) : Inv X pins' σ H s :=
  ⟨I.ok, I.os, I.bare, I.base, I.loc, I.cell, I.free, I.freeC, fun p hp => (List.mem_append.mp hp).elim (fun z => I.pin p (List.mem_append_left _ z)) (h p), I.hok, I.len⟩

theorem nodup_ix {N : List Str} (hN : N.Nodup) {i j : Nat} {x : Str} (a : N[i]? = some x) (b : N[j]? = some x) : i = j := by
  obtain ⟨h1, e1⟩ := List.getElem?_eq_some_iff.mp a
  obtain ⟨h2, e2⟩ := List.getElem?_eq_some_iff.mp b
  exact (List.getElem_inj hN).mp (e1.trans e2.symm)

/-- a name is stored; what changed -/
theorem store_ok2 {M : Model} {A : Around} {E : Value → Shared → Prop} {i : Nat} {x : Str} {v : V} {u : Value} {Q : Unit → Shared → Prop} (I : Inv X pins σ H s) (hN : X.N.Nodup) (hi : X.N[i]? = some x) (hx : Loc X.env.scope x) (r : RelV v u)
    (h : ∀ s', Inv X pins (σ.set i (some v)) H s' → (∃ a, Heap.SameBut a s.heap s'.heap ∧ (a = X.env.locals ∨ X.env.cells.lookup x = some a)) → Q () s') (hf : X.fn x = true ∨ X.env.scope.names.lookup x = some .local := by first | exact .inl rfl | exact .inr rfl | assumption) : wpAny M A (storeName X.env x u) Q E s := by
  obtain ⟨m, hn, hl⟩ := id I.loc
  have hcls : (X.env.scope.kind == .class || (X.env.scope.kind == .module && X.env.locals != X.env.globals)) = false := by rw [I.ok.kind]; rfl
  have hiσ : i < σ.length := by rw [I.len]; exact (List.getElem?_eq_some_iff.mp hi).1
  have cne := I.cne
  have tracked : ∀ {a : Addr} {h' : Heap}, (∃ o, s.heap.get? a = some o ∧ H a = none) → Heap.SameBut a s.heap h' → HOk X.prog X.w H h' := fun {a h'} ha hs b ob e => by
    obtain ⟨_, _, hfree⟩ := ha
    refine (I.hok b ob e).stay (fun c w' hc q => (hs.2 c ?_).trans q) (fun _ q => q) fun _ _ q => q
    rintro rfl
    rcases hc with rfl | hc
    · rw [hfree] at e; cases e
    · rw [hfree] at hc; cases hc
  rcases hx with hk | hk
  · refine wpAny_storeName_local hk hn (fun h' hn' hs => ?_) hcls
    obtain ⟨oL, _, _, hoL, _⟩ := id hn
    refine h _ ⟨I.ok, I.os, I.bare, ⟨fun b o e n hb hx => ?_, fun b o e n hb hx => ?_, I.base.free, fun b o e hx => ?_, I.base.tups, I.base.frzs, I.base.tbls⟩, ⟨_, hn', fun j y v' e1 e2 e3 => ?_⟩, fun y c e => ?_, I.free, I.freeC, fun p hp => ?_, tracked ⟨oL, hoL, I.free⟩ hs, by simpa using I.len⟩ ⟨_, hs, .inl rfl⟩
    · exact (hs.2 b (Nat.ne_of_lt (Nat.lt_of_lt_of_le (Heap.lt_size e) I.ok.above))).trans (I.base.keep b o e n hb hx)
    · obtain ⟨sl, e1⟩ := I.base.slot b o e n hb hx
      exact ⟨sl, (hs.2 b (Nat.ne_of_lt (Nat.lt_of_lt_of_le (Heap.lt_size e) I.ok.above))).trans e1⟩
    · obtain ⟨o', e1⟩ := I.base.there b o e hx
      exact ⟨o', (hs.2 b (Nat.ne_of_lt (Nat.lt_of_lt_of_le (Heap.lt_size e) I.ok.above))).trans e1⟩
    · by_cases hj : j = i
      · subst hj
        rw [hi] at e1; cases e1
        rw [List.getElem?_set_self hiσ] at e2
        cases e2
        exact ⟨u, r, .inl ⟨hk, by simp⟩⟩
      · rw [List.getElem?_set_ne (Ne.symm hj)] at e2
        obtain ⟨u', r', q⟩ := hl j y v' e1 e2 e3
        refine ⟨u', r', ?_⟩
        rcases q with ⟨k, e⟩ | ⟨k, c, e, z⟩
        · refine .inl ⟨k, ?_⟩
          have : y ≠ x := fun e => hj (nodup_ix hN e1 (e ▸ hi))
          simp [this, e]
        · exact .inr ⟨k, c, e, z.sameBut hs (cne y c e)⟩
    · obtain ⟨w', z⟩ := I.cell y c e
      exact ⟨w', z.sameBut hs (cne y c e)⟩
    · obtain ⟨e, n, ne, nf, d⟩ := I.pin p hp
      exact ⟨(hs.2 p.1 ne).trans e, n, ne, nf, d⟩
  · have hfn : X.fn x = true := by
      rcases hf with z | z
      · exact z
      · rw [z] at hk; cases hk
    obtain ⟨c, hc⟩ := I.ok.has x (.inl hk)
    obtain ⟨w', z⟩ := I.cell x c hc
    refine wpAny_storeName_cell I.ok.kind hk hc z (fun h' hc' hs => ?_)
    obtain ⟨oc, hoc, hocd⟩ := id z
    refine h { s with heap := h' } ⟨I.ok, I.os, I.bare, ⟨fun b o e n hb hx => ?_, fun b o e n hb hx => ?_, I.base.free, fun b o e hx => ?_, I.base.tups, I.base.frzs, I.base.tbls⟩, ⟨m, hn.sameBut hs (Ne.symm (cne x c hc)), fun j y v' e1 e2 e3 => ?_⟩, fun y c' e => ?_, I.free, I.freeC, fun p hp => ?_, tracked ⟨oc, hoc, I.freeC x c hc⟩ hs, by simpa using I.len⟩ ⟨c, hs, .inr hc⟩
    · exact (hs.2 b (Nat.ne_of_lt (Nat.lt_of_lt_of_le (Heap.lt_size e) (I.ok.cab x c hfn hc)))).trans (I.base.keep b o e n hb hx)
    · obtain ⟨sl, e1⟩ := I.base.slot b o e n hb hx
      exact ⟨sl, (hs.2 b (Nat.ne_of_lt (Nat.lt_of_lt_of_le (Heap.lt_size e) (I.ok.cab x c hfn hc)))).trans e1⟩
    · obtain ⟨o', e1⟩ := I.base.there b o e hx
      exact ⟨o', (hs.2 b (Nat.ne_of_lt (Nat.lt_of_lt_of_le (Heap.lt_size e) (I.ok.cab x c hfn hc)))).trans e1⟩
    · by_cases hj : j = i
      · subst hj
        rw [hi] at e1; cases e1
        rw [List.getElem?_set_self hiσ] at e2
        cases e2
        exact ⟨u, r, .inr ⟨.inl hk, c, hc, hc'⟩⟩
      · rw [List.getElem?_set_ne (Ne.symm hj)] at e2
        obtain ⟨u', r', q⟩ := hl j y v' e1 e2 e3
        refine ⟨u', r', ?_⟩
        rcases q with q | ⟨k, c', e, z'⟩
        · exact .inl q
        · refine .inr ⟨k, c', e, z'.sameBut hs ?_⟩
          rintro rfl
          exact hj (nodup_ix hN e1 (I.ok.inj _ _ _ e hc ▸ hi))
    · by_cases hcc : c' = c
      · subst hcc; exact ⟨_, hc'⟩
      · obtain ⟨w2, z2⟩ := I.cell y c' e
        exact ⟨w2, z2.sameBut hs hcc⟩
    · obtain ⟨e, n, ne, nf, d⟩ := I.pin p hp
      refine ⟨(hs.2 p.1 ?_).trans e, n, ne, nf, d⟩
      intro q
      rw [q, hoc] at e
      have q' : oc = p.2 := Option.some.inj e
      exact d w' (by rw [← q']; exact hocd)
theorem store_ok {M : Model} {A : Around} {E : Value → Shared → Prop} {i : Nat} {x : Str} {v : V} {u : Value} {Q : Unit → Shared → Prop} (I : Inv X pins σ H s) (hN : X.N.Nodup) (hi : X.N[i]? = some x) (hx : Loc X.env.scope x) (r : RelV v u)
    (h : ∀ s', Inv X pins (σ.set i (some v)) H s' → Q () s') (hf : X.fn x = true ∨ X.env.scope.names.lookup x = some .local := by first | exact .inl rfl | exact .inr rfl | assumption) : wpAny M A (storeName X.env x u) Q E s :=
  store_ok2 I hN hi hx r (fun s' I' _ => h s' I') hf
/-- behind a call or a block, the state as it is -/
theorem Inv.call' {s' : Shared} {ch : List Addr} (I : Inv X pins σ H s) (ho : s'.os = s.os) (u : Un (frs X.stack) ch H H' s.heap s'.heap) (hok : HOk X.prog X.w H' s'.heap) (hg : AllBare s'.gens)
    (hch : ∀ b ∈ ch, (b ∈ X.ex ∨ X.s₀.heap.objs.size ≤ b) ∧ b ≠ X.env.locals ∧ (∀ x c, X.env.cells.lookup x = some c → c ≠ b) ∧ ∀ p ∈ X.pn ++ pins, p.1 ≠ b) : Inv X pins σ H' s' := by
  obtain ⟨h', g', d', t', o'⟩ := s'
  have e : o' = s.os := ho
  subst e
  exact I.call (g' := g') (t' := t') (d' := d') u hok hg hch
end

/-! ### the judgements -/
/-- an exception: its class, its own dict's address (where it has one), the abstract heap behind it -/
abbrev XK := Value → Option Addr → Hp → Prop
abbrev St := List (Option V)
abbrev VK := V → Hp → Prop
/-- an expression's reading; a test's; an argument list's -/
abbrev TE := St → Hp → VK → Prop
abbrev TT := St → Hp → (Bool → Hp → Prop) → Prop
abbrev TA := St → Hp → (List V → Hp → Prop) → Prop
/-- what is wanted behind a statement -/
structure Ends where
  nx : St → Hp → Prop
  rt : VK
  bk : St → Hp → Prop := fun _ _ => False
  ct : St → Hp → Prop := fun _ _ => False
abbrev TS := Ends → St → Hp → Prop

def EP (X : Cx) (pins : List (Addr × Obj)) (σ : St) (Q : VK) (u : Value) (s' : Shared) : Prop := ∃ v H', Inv X pins σ H' s' ∧ RelV v u ∧ Q v H'
def TP (X : Cx) (pins : List (Addr × Obj)) (σ : St) (Q : Bool → Hp → Prop) (b : Bool) (s' : Shared) : Prop := ∃ H', Inv X pins σ H' s' ∧ Q b H'
def AP (X : Cx) (pins : List (Addr × Obj)) (σ : St) (Q : List V → Hp → Prop) (us : List Value) (s' : Shared) : Prop := ∃ vs H', Inv X pins σ H' s' ∧ Vals vs us ∧ Q vs H'
def SP (X : Cx) (pins : List (Addr × Obj)) (D : Ends) (f : Flow) (s' : Shared) : Prop :=
  match f with
  | .next => ∃ σ' H', Inv X pins σ' H' s' ∧ D.nx σ' H'
  | .brk => ∃ σ' H', Inv X pins σ' H' s' ∧ D.bk σ' H'
  | .cont => ∃ σ' H', Inv X pins σ' H' s' ∧ D.ct σ' H'
  | .ret u => ∃ v σ' H', Inv X pins σ' H' s' ∧ RelV v u ∧ D.rt v H'

def PE (X : Cx) (e : Expr) (t : TE) : Prop :=
  ∀ (pins : List (Addr × Obj)) (s : Shared) (σ : St) (H : Hp) (Q : VK), Inv X pins σ H s → t σ H Q → wpAny (model X.prog X.w) X.A (eval e X.env) (EP X pins σ Q) X.xe s
def PT (X : Cx) (e : Expr) (t : TT) : Prop :=
  ∀ (pins : List (Addr × Obj)) (s : Shared) (σ : St) (H : Hp) (Q : Bool → Hp → Prop), Inv X pins σ H s → t σ H Q → wpAny (model X.prog X.w) X.A (isTrue e X.env (eval e X.env)) (TP X pins σ Q) X.xe s
/-- a test whatever its 'whole' is (and, or) -/
def PW (X : Cx) (e : Expr) (t : TT) : Prop :=
  ∀ (whole : Sem Value) (pins : List (Addr × Obj)) (s : Shared) (σ : St) (H : Hp) (Q : Bool → Hp → Prop), Inv X pins σ H s → t σ H Q → wpAny (model X.prog X.w) X.A (isTrue e X.env whole) (TP X pins σ Q) X.xe s
theorem PW.pt {X : Cx} {e : Expr} {t : TT} (h : PW X e t) : PT X e t := h _
/-- an argument list (no star), from the left -/
def PA (X : Cx) (es : List Expr) (t : TA) : Prop :=
  ∀ (pos : Pos) (pins : List (Addr × Obj)) (s : Shared) (σ : St) (H : Hp) (Q : List V → Hp → Prop), Inv X pins σ H s → t σ H Q → wpAny (model X.prog X.w) X.A (spliced (backTo pos (starEach es X.env))) (AP X pins σ Q) X.xe s
def PS (X : Cx) (st : Stmt) (t : TS) : Prop :=
  ∀ (pins : List (Addr × Obj)) (s : Shared) (σ : St) (H : Hp) (D : Ends), Inv X pins σ H s → t D σ H → wpAny (model X.prog X.w) X.A (exec st X.env) (SP X pins D) X.xe s
def PSs (X : Cx) (st : List Stmt) (t : TS) : Prop :=
  ∀ (pins : List (Addr × Obj)) (s : Shared) (σ : St) (H : Hp) (D : Ends), Inv X pins σ H s → t D σ H → wpAny (model X.prog X.w) X.A (execs st X.env) (SP X pins D) X.xe s
/-- weaken the end -/
theorem thn {α : Type} {t : Sem α} {Q Q' : α → Shared → Prop} {M : Model} {A : Around} {E : Value → Shared → Prop} {s : Shared} (h : wpAny M A t Q E s) (hQ : ∀ a s, Q a s → Q' a s) : wpAny M A t Q' E s := wpAny_mono h hQ fun _ _ x => x
end L2

namespace L2
open PySem PySem.Spec PyProof.Rows
section
variable {X : Cx}

/-! ### names and constants -/
def tVar (i : Nat) : TE := fun σ H Q => ∃ v, σ[i]? = some (some v) ∧ Q v H
def tC (v : V) : TE := fun _ H Q => Q v H
theorem pe_var {i : Nat} {x : Str} {pos : Pos} (hN : X.N[i]? = some x) (hv : Vis X.env.scope x) (hd : (x == ("__debug__" : Str)) = false := by decide) (hcd : (x == ("__classdict__" : Str)) = false := by decide) : PE X (.Name x pos) (tVar i) := by
  intro pins s σ H Q I h
  obtain ⟨v, e, h⟩ := h
  obtain ⟨m, hn, hl⟩ := I.loc
  obtain ⟨u, r, l⟩ := hl i x v hN e hv
  have fin : EP X pins σ Q u s := ⟨v, H, I, r, h⟩
  rcases l with ⟨hk, hm⟩ | ⟨hk, c, hc, hcell⟩
  · exact wpAny_Name (wpAny_loadName_local I.ok.kind hk hn hm fin) hd
  · rcases hk with hk | hk
    · exact wpAny_Name (wpAny_loadName_cell I.ok.kind hk hc hcell fin) hd
    · exact wpAny_Name (wpAny_loadName_free I.ok.kind hk hc hcell fin hcd) hd
theorem pe_int {i j pos} : PE X (.Constant (.int i) j pos) (tC (.int i)) := fun _ _ _ H _ I h => wpAny_Constant_int ⟨.int i, H, I.tok _, ⟨_, rfl⟩, h⟩
theorem pe_bl {b j pos} : PE X (.Constant (.bool b) j pos) (tC (.bl b)) := fun _ _ _ H _ I h => Constant_bool ⟨.bl b, H, I, rfl, h⟩
theorem pe_non {j pos} : PE X (.Constant .none j pos) (tC .non) := fun _ _ _ H _ I h => Constant_none ⟨.non, H, I, rfl, h⟩
theorem pe_str {x j pos} : PE X (.Constant (.str x) j pos) (tC (.str x)) := fun _ _ _ H _ I h => Calls.Constant_str ⟨.str x, H, I.tok _, ⟨_, rfl⟩, h⟩

/-- a global name of the def -/
def Gl (X : Cx) (x : Str) : Prop := X.env.kindOf x = some .globalImplicit
theorem ld_glob {E : Value → Shared → Prop} {pins : List (Addr × Obj)} {s : Shared} {σ : St} {H : Hp} {x : Str} {u : Value} {pos : Pos} {Q : Value → Shared → Prop} (I : Inv X pins σ H s) (hg : Gl X x) (hm : X.mg x = some u) (h : Q u s)
    (hd : (x == ("__debug__" : Str)) = false := by decide) : wpAny (model X.prog X.w) X.A (eval (.Name x pos) X.env) Q E s :=
  Calls.Name_function_global I.ok.kind hg (Calls.loadGlobal_global (by rw [I.ok.glob]; exact I.mod.glob.keeps I.bk) hm h) hd
theorem ld_blt {E : Value → Shared → Prop} {pins : List (Addr × Obj)} {s : Shared} {σ : St} {H : Hp} {x : Str} {u : Value} {pos : Pos} {Q : Value → Shared → Prop} (I : Inv X pins σ H s) (hg : Gl X x) (hm : X.mg x = none) (hv : bootBuiltins x = some u) (h : Q u s)
    (hn : x ≠ "__name__" := by decide) (hd : (x == ("__debug__" : Str)) = false := by decide) : wpAny (model X.prog X.w) X.A (eval (.Name x pos) X.env) Q E s := by
  obtain ⟨mb, h1, h2⟩ := I.mod.blt
  exact Calls.Name_function_global I.ok.kind hg (Calls.loadGlobal_builtin (by rw [I.ok.glob]; exact I.mod.glob.keeps I.bk) hm (by rw [I.ok.blt]; exact h1.keeps I.bk) ((h2 x hn).trans hv) h) hd
/-- a module's constant, a class, a function, as a value -/
theorem pe_glob {x : Str} {v : V} {u : Value} {pos : Pos} (hg : Gl X x) (hm : X.mg x = some u) (r : RelV v u) (hd : (x == ("__debug__" : Str)) = false := by decide) : PE X (.Name x pos) (tC v) :=
  fun _ _ _ H _ I h => ld_glob I hg hm ⟨v, H, I, r, h⟩ hd
theorem pe_bltn {x : Str} {v : V} {u : Value} {pos : Pos} (hg : Gl X x) (hm : X.mg x = none) (hv : bootBuiltins x = some u) (r : RelV v u) (hn : x ≠ "__name__" := by decide) (hd : (x == ("__debug__" : Str)) = false := by decide) : PE X (.Name x pos) (tC v) :=
  fun _ _ _ H _ I h => ld_blt I hg hm hv ⟨v, H, I, r, h⟩ hn hd

/-! ### arithmetic -/
/-- two ints -/
def t2I (ta tb : TE) (k : Int → Int → Hp → Prop) : St → Hp → Prop := fun σ H => ta σ H fun x H1 => tb σ H1 fun y H2 => ∃ i j, x = .int i ∧ y = .int j ∧ k i j H2
def tAdd (ta tb : TE) : TE := fun σ H Q => t2I ta tb (fun i j H2 => Q (.int (i + j)) H2) σ H
def tSub (ta tb : TE) : TE := fun σ H Q => t2I ta tb (fun i j H2 => Q (.int (i - j)) H2) σ H
/-- the left factor below 2^64 -/
def tMul (ta tb : TE) : TE := fun σ H Q => t2I ta tb (fun i j H2 => (-(2 ^ 64) < i ∧ i < 2 ^ 64) ∧ Q (.int (i * j)) H2) σ H
variable {a b : Expr} {ta tb : TE} {pos : Pos}
/-! ### comparisons -/
def PC (X : Cx) (op : CmpOp) (a b : Expr) (t : TE) : Prop :=
  ∀ (pins : List (Addr × Obj)) (s : Shared) (σ : St) (H : Hp) (Q : VK), Inv X pins σ H s → t σ H Q →
    wpAny (model X.prog X.w) X.A (eval a X.env) (fun v s₁ => wpAny (model X.prog X.w) X.A (eval b X.env) (fun u s₂ => wpAny (model X.prog X.w) X.A (compareOp op v u) (EP X pins σ Q) X.xe s₂) X.xe s₁) X.xe s
def tCmp (p : Int → Int → Bool) (ta tb : TE) : TE := fun σ H Q => t2I ta tb (fun i j H2 => Q (.bl (p i j)) H2) σ H
abbrev tLt : TE → TE → TE := tCmp fun i j => decide (i < j)
abbrev tLe : TE → TE → TE := tCmp fun i j => decide (i ≤ j)
abbrev tGt : TE → TE → TE := tCmp fun i j => decide (j < i)
abbrev tGe : TE → TE → TE := tCmp fun i j => decide (j ≤ i)
abbrev tEqI : TE → TE → TE := tCmp fun i j => decide (i = j)
abbrev tNeI : TE → TE → TE := tCmp fun i j => !decide (i = j)
/-- is None -/
def tIsN (ta : TE) : TE := fun σ H Q => ta σ H fun x H1 => Q (.bl (decide (x = .non))) H1
def tNotN (ta : TE) : TE := fun σ H Q => ta σ H fun x H1 => Q (.bl (!decide (x = .non))) H1
/-- a comparison as a value, as a test -/
def tB (t : TE) : TT := fun σ H Q => t σ H fun x H1 => ∃ c, x = .bl c ∧ Q c H1
/-- an expression whose value is a bool, as a test -/
theorem pt_val {e : Expr} {t : TE} (h : PE X e t) (he : ∀ whole, isTrue e X.env whole = (do let v ← whole; standAt e.pos; holding [v] (truthy v)) := by intro _; rfl) : PT X e (tB t) := by
  intro pins s σ H Q I hw
  refine isTrue_plain (thn (h pins s σ H _ I hw) fun v s1 ⟨x, H1, I1, r1, q1⟩ => ?_) (he _)
  obtain ⟨d, rfl, q⟩ := q1
  cases r1
  exact wpAny_truthy_bool ⟨H1, I1, q⟩

/-! ### and, or, not -/
variable {tA tB' : TT} {rest : List Expr}
def tAnd (t u : TT) : TT := fun σ H Q => t σ H fun c H1 => if c = true then u σ H1 Q else Q false H1
def tOr (t u : TT) : TT := fun σ H Q => t σ H fun c H1 => if c = true then Q true H1 else u σ H1 Q
def tNot (t : TT) : TT := fun σ H Q => t σ H fun c H1 => Q (!c) H1
theorem pw_and1 (ha : PT X a tA) : PW X (.BoolOp .And [a] pos) tA := by
  intro wh pins s σ H Q I h
  refine isTrue_and (thn (ha pins s σ H Q I h) fun c s1 e => ?_)
  cases c with
  | true => exact isTrue_and_nil e
  | false => exact e
theorem pw_or1 (ha : PT X a tA) : PW X (.BoolOp .Or [a] pos) tA := by
  intro wh pins s σ H Q I h
  refine isTrue_or (thn (ha pins s σ H Q I h) fun c s1 e => ?_)
  cases c with
  | false => exact isTrue_or_nil e
  | true => exact e
theorem pw_and (ha : PT X a tA) (hb : PW X (.BoolOp .And (b :: rest) pos) tB') : PW X (.BoolOp .And (a :: b :: rest) pos) (tAnd tA tB') := by
  intro wh pins s σ H Q I h
  refine isTrue_and (thn (ha pins s σ H _ I h) fun c s1 ⟨H1, I1, q1⟩ => ?_)
  cases c with
  | true => exact hb wh pins s1 σ H1 Q I1 q1
  | false => exact ⟨H1, I1, q1⟩
theorem pw_or (ha : PT X a tA) (hb : PW X (.BoolOp .Or (b :: rest) pos) tB') : PW X (.BoolOp .Or (a :: b :: rest) pos) (tOr tA tB') := by
  intro wh pins s σ H Q I h
  refine isTrue_or (thn (ha pins s σ H _ I h) fun c s1 ⟨H1, I1, q1⟩ => ?_)
  cases c with
  | true => exact ⟨H1, I1, q1⟩
  | false => exact hb wh pins s1 σ H1 Q I1 q1
theorem pt_not (ha : PT X a tA) : PT X (.UnaryOp .Not a pos) (tNot tA) := by
  intro pins s σ H Q I h
  exact isTrue_not (ha pins s σ H (fun c H1 => Q (!c) H1) I h)
/-- .. as values (bools) -/
def tAndV (ta tb : TE) : TE := fun σ H Q => ta σ H fun x H1 => ∃ c, x = .bl c ∧ if c = true then tb σ H1 Q else Q (.bl false) H1
def tOrV (ta tb : TE) : TE := fun σ H Q => ta σ H fun x H1 => ∃ c, x = .bl c ∧ if c = true then Q (.bl true) H1 else tb σ H1 Q
def tNotV (ta : TE) : TE := fun σ H Q => ta σ H fun x H1 => ∃ c, x = .bl c ∧ Q (.bl (!c)) H1
theorem pe_one {op} {t : TE} (h : PE X a t) : PE X (.BoolOp op [a] pos) t := fun pins s σ H Q I hw => BoolOp_one (h pins s σ H Q I hw)
theorem pe_and (ha : PE X a ta) (hb : PE X (.BoolOp .And (b :: rest) pos) tb) : PE X (.BoolOp .And (a :: b :: rest) pos) (tAndV ta tb) := by
  intro pins s σ H Q I h
  refine BoolOp_and (thn (ha pins s σ H _ I h) fun v s1 ⟨x, H1, I1, r1, q1⟩ => ?_)
  obtain ⟨c, rfl, q1⟩ := q1
  cases r1
  refine wpAny_truthy_bool ?_
  cases c with
  | true => exact hb pins s1 σ H1 Q I1 q1
  | false => exact ⟨.bl false, H1, I1, rfl, q1⟩
/-- a if t else b -/
def tIf (t : TT) (ta tb : TE) : TE := fun σ H Q => t σ H fun c H1 => if c = true then ta σ H1 Q else tb σ H1 Q
end
end L2

namespace L2
open PySem PySem.Spec PyProof.Rows

/-! ### a list, a tuple that is read: tracked, frozen, or an object of the module -/
def SqL (K : PySem.W.Frag) (H : Hp) (a : Addr) (xs : List V) : Prop :=
  Rd H a (.lst xs) ∨
    ∃ (o : Obj) (its : Array Value) (n : Nat), K.lookup a = some o ∧ o.cls = .type "list" ∧ o.dict = none ∧ o.data = .seq its n ∧ its.size ≤ sizeLine ∧ Vals xs its.toList
def SqT (K : PySem.W.Frag) (H : Hp) (a : Addr) (xs : List V) : Prop :=
  Rd H a (.tup xs) ∨
    ∃ (o : Obj) (its : Array Value) (n : Nat), K.lookup a = some o ∧ o.cls = .type "tuple" ∧ o.data = .seq its n ∧ its.size ≤ sizeLine ∧ Vals xs its.toList
def absV : Value → Option V
  | .none => some .non
  | .bool b => some (.bl b)
  | .int i _ => some (.int i)
  | .str x _ => some (.str x)
  | .bytes b _ => some (.byt b)
  | .float b _ => some (.flt b)
  | .ref a => some (.ref a)
  | .type n => some (.ty n)
  | _ => none
theorem RelV.abs {x : V} {u : Value} (r : RelV x u) : absV u = some x := by
  cases x with
  | non => cases r; rfl
  | bl _ => cases r; rfl
  | int _ => obtain ⟨t, rfl⟩ := r; rfl
  | str _ => obtain ⟨t, rfl⟩ := r; rfl
  | byt _ => obtain ⟨t, rfl⟩ := r; rfl
  | flt _ => obtain ⟨t, rfl⟩ := r; rfl
  | ref _ => cases r; rfl
  | ty _ => cases r; rfl
theorem RelV.inj {x y : V} {u : Value} (r : RelV x u) (q : RelV y u) : x = y := Option.some.inj (r.abs.symm.trans q.abs)
theorem Vals.inj : ∀ {xs ys : List V} {us : List Value}, Vals xs us → Vals ys us → xs = ys
  | _, _, _, .nil, .nil => rfl
  | _, _, _, .cons r t, .cons r' t' => by rw [r.inj r', Vals.inj t t']
section
variable {X : Cx} {pins : List (Addr × Obj)} {σ : St} {H : Hp} {s : Shared} {a : Addr} {xs ys : List V}
theorem SqL.of {K : PySem.W.Frag} (h : H a = some (.lst xs)) : SqL K H a xs := .inl (.inl h)
theorem SqT.of {K : PySem.W.Frag} (h : H a = some (.tup xs)) : SqT K H a xs := .inl (.inl h)
theorem Inv.list (I : Inv X pins σ H s) (h : SqL X.K H a xs) : ∃ its : List Value, Vals xs its ∧ PlainL s.heap a its.toArray ∧ xs.length ≤ sizeLine := by
  rcases h with h | ⟨o, its, n, hk, hc, hd, hs, hz, r⟩
  · obtain ⟨z, its, n, r, e⟩ := h.ok I.hok
    exact ⟨its, r, ⟨_, n, e, rfl, rfl, rfl⟩, z⟩
  · refine ⟨its.toList, r, ⟨o, n, I.kIn a o hk, hc, hd, by simpa using hs⟩, ?_⟩
    have e := r.length
    simp only [Array.length_toList] at e
    omega
theorem Inv.tuple (I : Inv X pins σ H s) (h : SqT X.K H a xs) : ∃ its : List Value, Vals xs its ∧ IsTup s.heap a its.toArray ∧ xs.length ≤ sizeLine := by
  rcases h with h | ⟨o, its, n, hk, hc, hs, hz, r⟩
  · obtain ⟨z, its, r, p⟩ := h.ok I.hok
    exact ⟨its, r, p, z⟩
  · refine ⟨its.toList, r, ⟨o, I.kIn a o hk, hc, n, by simpa using hs⟩, ?_⟩
    have e := r.length
    simp only [Array.length_toList] at e
    omega
theorem Inv.list_inj (I : Inv X pins σ H s) (h : SqL X.K H a xs) (h' : SqL X.K H a ys) : xs = ys := by
  obtain ⟨its, r, ⟨o, n, e, _, _, d⟩, _⟩ := I.list h
  obtain ⟨its', r', ⟨o', n', e', _, _, d'⟩, _⟩ := I.list h'
  rw [e] at e'; cases e'
  rw [d] at d'
  injection d' with d1 _
  have : its = its' := by simpa using congrArg Array.toList d1
  subst this
  exact r.inj r'
theorem Inv.tuple_inj (I : Inv X pins σ H s) (h : SqT X.K H a xs) (h' : SqT X.K H a ys) : xs = ys := by
  obtain ⟨its, r, ⟨o, e, _, n, d⟩, _⟩ := I.tuple h
  obtain ⟨its', r', ⟨o', e', _, n', d'⟩, _⟩ := I.tuple h'
  rw [e] at e'; cases e'
  rw [d] at d'
  injection d' with d1 _
  have : its = its' := by simpa using congrArg Array.toList d1
  subst this
  exact r.inj r'
end

/-! ### another wish about exceptions -/
abbrev Cx.wish (X : Cx) (E : Value → Shared → Prop) : Cx := { X with xe := E }
/-- no exception leaves -/
abbrev Cx.nox (X : Cx) : Cx := X.wish fun _ _ => False
theorem Cx.Ok.wish {X : Cx} (ok : X.Ok) (E : Value → Shared → Prop) : (X.wish E).Ok :=
  ⟨ok.mod, ok.kind, ok.glob, ok.blt, ok.above, ok.inj, ok.has, ok.cab, ok.hd, ok.frames, ok.stk, ok.exf, ok.bs, ok.bsz, ok.noex, ok.exfs, ok.funs, ok.frf⟩
theorem Cx.Ok.unwish {X : Cx} {E : Value → Shared → Prop} (ok : (X.wish E).Ok) : X.Ok :=
  ⟨ok.mod, ok.kind, ok.glob, ok.blt, ok.above, ok.inj, ok.has, ok.cab, ok.hd, ok.frames, ok.stk, ok.exf, ok.bs, ok.bsz, ok.noex, ok.exfs, ok.funs, ok.frf⟩
section
variable {X : Cx} {pins : List (Addr × Obj)} {σ : St} {H : Hp} {s : Shared} {E : Value → Shared → Prop}
theorem Inv.wish (I : Inv X pins σ H s) (E : Value → Shared → Prop) : Inv (X.wish E) pins σ H s := ⟨I.ok.wish E, I.os, I.bare, I.base, I.loc, I.cell, I.free, I.freeC, I.pin, I.hok, I.len⟩
theorem Inv.unwish (I : Inv (X.wish E) pins σ H s) : Inv X pins σ H s := ⟨I.ok.unwish, I.os, I.bare, I.base, I.loc, I.cell, I.free, I.freeC, I.pin, I.hok, I.len⟩
theorem SP.unwish {D : Ends} {f : Flow} {s' : Shared} (h : SP (X.wish E) pins D f s') : SP X pins D f s' := by
  cases f with
  | next => obtain ⟨σ', H', I, q⟩ := h; exact ⟨σ', H', I.unwish, q⟩
  | brk => obtain ⟨σ', H', I, q⟩ := h; exact ⟨σ', H', I.unwish, q⟩
  | cont => obtain ⟨σ', H', I, q⟩ := h; exact ⟨σ', H', I.unwish, q⟩
  | ret u => obtain ⟨v, σ', H', I, r, q⟩ := h; exact ⟨v, σ', H', I.unwish, r, q⟩
theorem PE.nox {e : Expr} {t : TE} (h : PE X.nox e t) : PE X e t := fun pins s σ H Q I hw =>
  wpAny_mono (h pins s σ H Q (I.wish _) hw) (fun _ _ ⟨v, H', I', r, q⟩ => ⟨v, H', I'.unwish, r, q⟩) fun _ _ z => False.elim z
theorem PT.nox {e : Expr} {t : TT} (h : PT X.nox e t) : PT X e t := fun pins s σ H Q I hw =>
  wpAny_mono (h pins s σ H Q (I.wish _) hw) (fun _ _ ⟨H', I', q⟩ => ⟨H', I'.unwish, q⟩) fun _ _ z => False.elim z
theorem PSs.nox {st : List Stmt} {t : TS} (h : PSs X.nox st t) : PSs X st t := fun pins s σ H D I hw =>
  wpAny_mono (h pins s σ H D (I.wish _) hw) (fun _ _ q => q.unwish) fun _ _ z => False.elim z
end

/-! ### blocks and small statements -/
section
variable {X : Cx} {st : Stmt} {rest : List Stmt} {t u : TS} {e : Expr} {te : TE} {pos : Pos}
def tNext : TS := fun D σ H => D.nx σ H
def tSeq (t u : TS) : TS := fun D σ H => t { D with nx := u D } σ H
theorem pss_nil : PSs X [] tNext := fun _ _ σ H _ I h => wpAny_execs_nil ⟨σ, H, I, h⟩
theorem pss_cons (h1 : PS X st t) (h2 : PSs X rest u) : PSs X (st :: rest) (tSeq t u) := by
  intro pins s σ H D I h
  refine wpAny_execs_cons (thn (h1 pins s σ H { D with nx := u D } I h) fun f s1 q => ?_)
  cases f with
  | next =>
    obtain ⟨σ', H', I', q⟩ := q
    exact h2 pins s1 σ' H' D I' q
  | ret v => exact q
  | brk => exact q
  | cont => exact q
theorem pss_one (h1 : PS X st t) : PSs X [st] t := by
  intro pins s σ H D I h
  refine wpAny_execs_cons (thn (h1 pins s σ H D I h) fun f s1 q => ?_)
  cases f with
  | next => exact wpAny_execs_nil q
  | ret v => exact q
  | brk => exact q
  | cont => exact q
def tBreak : TS := fun D σ H => D.bk σ H
def tCont : TS := fun D σ H => D.ct σ H
/-- in a def's body nothing is shown -/
theorem Inv.quiet {pins : List (Addr × Obj)} {σ : St} {H : Hp} {s : Shared} (I : Inv X pins σ H s) : interactive X.env = false := by simp [interactive, I.ok.kind]
/-- an expression whose value is dropped -/
def tDrop (te : TE) : TS := fun D σ H => te σ H fun _ H1 => D.nx σ H1
theorem ps_expr (he : PE X e te) (hs : swapsWith e none pos.line X.env = pure false := by rfl) : PS X (.Expr e pos) (tDrop te) := by
  intro pins s σ H D I h
  exact wpAny_Expr_any (thn (he pins s σ H _ I h) fun v s1 ⟨x, H1, I1, r1, q1⟩ => ⟨σ, H1, I1, q1⟩) I.quiet hs
def tRet (te : TE) : TS := fun D σ H => te σ H D.rt
theorem ps_ret (he : PE X e te) : PS X (.Return (some e) pos) (tRet te) := by
  intro pins s σ H D I h
  exact wpAny_Return_some (thn (he pins s σ H _ I h) fun v s1 ⟨x, H1, I1, r1, q1⟩ => ⟨x, σ, H1, I1, r1, q1⟩)
def tRetN : TS := fun D _ H => D.rt .non H
def tIfS (c : TT) (t u : TS) : TS := fun D σ H => c σ H fun b H1 => if b = true then t D σ H1 else u D σ H1
theorem ps_if {c : Expr} {a b : List Stmt} {tc : TT} (hc : PT X c tc) (ha : PSs X a t) (hb : PSs X b u) : PS X (.If c a b pos) (tIfS tc t u) := by
  intro pins s σ H D I h
  refine wpAny_If (thn (hc pins s σ H _ I h) fun d s1 ⟨H1, I1, q1⟩ => ?_)
  cases d with
  | true => exact ha pins s1 σ H1 D I1 q1
  | false => exact hb pins s1 σ H1 D I1 q1
/-- code that the proof never comes to -/
def tNever : TS := fun _ _ _ => False
theorem pss_never {sts : List Stmt} : PSs X sts tNever := fun _ _ _ _ _ _ h => h.elim
end

/-! ### targets -/
abbrev TG := V → St → Hp → (St → Hp → Prop) → Prop
abbrev TGs := List V → St → Hp → (St → Hp → Prop) → Prop
def PG (X : Cx) (target : Expr) (t : TG) : Prop :=
  ∀ (pins : List (Addr × Obj)) (s : Shared) (σ : St) (H : Hp) (v : V) (u : Value) (Q : St → Hp → Prop), Inv X pins σ H s → RelV v u → t v σ H Q →
    wpAny (model X.prog X.w) X.A (assign target X.env u) (fun _ s' => ∃ σ' H', Inv X pins σ' H' s' ∧ Q σ' H') X.xe s
/-- several targets, one after another -/
def PGs (X : Cx) (ts : List Expr) (t : TGs) : Prop :=
  ∀ (pins : List (Addr × Obj)) (s : Shared) (σ : St) (H : Hp) (vs : List V) (us : List Value) (Q : St → Hp → Prop), Inv X pins σ H s → Vals vs us → t vs σ H Q →
    wpAny (model X.prog X.w) X.A (assignInOrder ((assignEach ts X.env).map (·.2)) us) (fun _ s' => ∃ σ' H', Inv X pins σ' H' s' ∧ Q σ' H') X.xe s
/-- o[i] = v, by values -/
abbrev TSet := V → V → V → Hp → (Hp → Prop) → Prop
def PSet (X : Cx) (t : TSet) : Prop :=
  ∀ (pins : List (Addr × Obj)) (s : Shared) (σ : St) (H : Hp) (o i v : V) (ov iv u : Value) (Q : Hp → Prop), Inv X pins σ H s → RelV o ov → RelV i iv → RelV v u → t o i v H Q →
    wpAny (model X.prog X.w) X.A (setItem ov iv u) (fun _ s' => ∃ H', Inv X pins σ H' s' ∧ Q H') X.xe s
/-- a op= b, by values -/
abbrev TIp := V → V → Hp → VK → Prop
def PIp (X : Cx) (op : Operator) (t : TIp) : Prop :=
  ∀ (pins : List (Addr × Obj)) (s : Shared) (σ : St) (H : Hp) (x y : V) (v u : Value) (Q : VK), Inv X pins σ H s → RelV x v → RelV y u → t x y H Q →
    wpAny (model X.prog X.w) X.A (inplaceOp op v u) (EP X pins σ Q) X.xe s
section
variable {X : Cx} {pos : Pos}
def gName (i : Nat) : TG := fun v σ H Q => Q (σ.set i (some v)) H
theorem pg_name {i : Nat} {x : Str} (hN : X.N.Nodup) (hi : X.N[i]? = some x) (hx : Loc X.env.scope x) (hf : X.fn x = true ∨ X.env.scope.names.lookup x = some .local := by first | exact .inl rfl | exact .inr rfl | assumption) : PG X (.Name x pos) (gName i) := by
  intro pins s σ H v u Q I r h
  exact wpAny_assign_Name (store_ok I hN hi hx r (fun s' I' => ⟨_, H, I', h⟩) hf)
def gNil : TGs := fun vs σ H Q => vs = [] ∧ Q σ H
def gCons (t : TG) (u : TGs) : TGs := fun vs σ H Q => ∃ v r, vs = v :: r ∧ t v σ H fun σ' H' => u r σ' H' Q
theorem pgs_nil : PGs X [] gNil := by
  intro pins s σ H vs us Q I r h
  obtain ⟨e, h⟩ := h
  subst e
  cases r
  exact assignInOrder_nil ⟨σ, H, I, h⟩
theorem pgs_cons {e : Expr} {es : List Expr} {t : TG} {u : TGs} (h1 : PG X e t) (h2 : PGs X es u)
    (hs : (assignEach (e :: es) X.env).map (·.2) = assign e X.env :: (assignEach es X.env).map (·.2) := by rfl) : PGs X (e :: es) (gCons t u) := by
  intro pins s σ H vs us Q I r h
  obtain ⟨v, vr, e1, h⟩ := h
  subst e1
  cases r with
  | cons r rr =>
    rw [hs]
    refine assignInOrder_cons (thn (h1 pins s σ H _ _ _ I r h) fun _ s1 ⟨σ1, H1, I1, q1⟩ => ?_)
    exact h2 pins s1 σ1 H1 _ _ Q I1 rr q1
/-- (a, b, ..) = a tuple of that length -/
def gTup (K : PySem.W.Frag) (n : Nat) (t : TGs) : TG := fun v σ H Q => ∃ a xs, v = .ref a ∧ SqT K H a xs ∧ xs.length = n ∧ t xs σ H Q
theorem pg_tup {es : List Expr} {k : Nat} {t : TGs} {n : Nat} (hc : X.calm = true) (h : PGs X es t)
    (hn : (assignEach es X.env).length = n := by rfl) (hst : (assignEach es X.env).findIdx? (·.1) = none := by rfl) : PG X (.Tuple es k pos) (gTup X.K n t) := by
  intro pins s σ H v u Q I r hw
  obtain ⟨a, xs, e1, hq, hl, hw⟩ := hw
  subst e1
  cases r
  obtain ⟨its, rv, ht, hz⟩ := I.tuple hq
  refine assign_Tuple_tuple (I.ok.hd hc) ht (by simp [hn, ← hl, rv.length]) hst fun h' hx => ?_
  have I1 : Inv X pins σ H { s with heap := h' } := I.kept (t' := s.toks) fun b o e => hx b o (Nat.ne_of_lt (Heap.lt_size e)) e
  exact h pins _ σ H xs _ Q I1 (by simpa using rv) hw
/-- o[i] = .. -/
def gSub (to ti : TE) (t : TSet) : TG := fun v σ H Q => to σ H fun o H1 => ti σ H1 fun i H2 => t o i v H2 fun H3 => Q σ H3
theorem pg_sub {o i : Expr} {to ti : TE} {t : TSet} (ho : PE X o to) (hi : PE X i ti) (hs : PSet X t)
    (ha : ∀ v, assign (.Subscript o i pos) X.env v = (do
      let ov ← holding [v] (eval o X.env)
      let iv ← holding [v, ov] (eval i X.env)
      standAt pos
      holding [v, ov, iv] (setItem ov iv v)
      release [v, ov, iv] []) := by intro _; rfl) : PG X (.Subscript o i pos) (gSub to ti t) := by
  intro pins s σ H v u Q I r h
  rw [ha]
  refine wpAny_bind (wpAny_holding (thn (ho pins s σ H _ I h) fun ov s1 ⟨x, H1, I1, r1, q1⟩ => ?_))
  refine wpAny_bind (wpAny_holding (thn (hi pins s1 σ H1 _ I1 q1) fun iv s2 ⟨y, H2, I2, r2, q2⟩ => ?_))
  refine wpAny_bind (wpAny_standAt (wpAny_bind (wpAny_holding (thn (hs pins s2 σ H2 x y v ov iv u _ I2 r1 r2 r q2) fun _ s3 ⟨H3, I3, q3⟩ => ?_))))
  exact wpAny_release ⟨σ, H3, I3, q3⟩
/-- target = value -/
def tAsg (te : TE) (g : TG) : TS := fun D σ H => te σ H fun x H1 => g x σ H1 D.nx
theorem ps_asg {tg e : Expr} {te : TE} {g : TG} (he : PE X e te) (hg : PG X tg g) (hs : swapsWithSole [tg] e pos.line X.env = pure false := by rfl) (hw : swappedStores [tg] e X.env = pure none := by rfl)
    (h1 : (assignEach [tg] X.env).map (·.2) = [assign tg X.env] := by rfl) : PS X (.Assign [tg] e pos) (tAsg te g) := by
  intro pins s σ H D I h
  refine wpAny_Assign_stores (thn (he pins s σ H _ I h) fun v s1 ⟨x, H1, I1, r1, q1⟩ => ?_) hs hw
  rw [h1]
  exact thn (hg pins s1 σ H1 x v _ I1 r1 q1) fun _ s2 q => q
/-- name = value -/
theorem ps_set {i : Nat} {x : Str} {e : Expr} {te : TE} {pos' : Pos} (hN : X.N.Nodup) (hi : X.N[i]? = some x) (hx : Loc X.env.scope x) (he : PE X e te) (hs : swapsWith e (some (.Name x pos')) pos.line X.env = pure false := by rfl) (hf : X.fn x = true ∨ X.env.scope.names.lookup x = some .local := by first | exact .inl rfl | exact .inr rfl | assumption) :
    PS X (.Assign [.Name x pos'] e pos) (tAsg te (gName i)) := by
  intro pins s σ H D I h
  refine wpAny_Assign_Name (thn (he pins s σ H _ I h) fun v s1 ⟨y, H1, I1, r1, q1⟩ => ?_) hs
  exact store_ok I1 hN hi hx r1 (fun s2 I2 => ⟨_, H1, I2, q1⟩) hf
/-- a, b = x, y with plain local names: stored from the right; the pair itself is not tracked (the opening rows as in PyProof/Rows/TupAssign.lean:23) -/
def tPar (i j : Nat) (ta : TA) : TS := fun D σ H => ta σ H fun vs H1 => ∃ v w, vs = [v, w] ∧ D.nx ((σ.set i (some v)).set j (some w)) H1
theorem ps_par {i j : Nat} {x y : Str} {a b : Expr} {ta : TA} {px py pt : Pos} {kt k2 pt2} (hc : X.calm = true) (hN : X.N.Nodup) (hi : X.N[i]? = some x) (hj : X.N[j]? = some y) (hij : i ≠ j)
    (hx : X.env.scope.names.lookup x = some .local) (hy : X.env.scope.names.lookup y = some .local) (ha : PA X [a, b] ta)
    (hw : swappedStores [.Tuple [.Name x px, .Name y py] kt pt] (.Tuple [a, b] k2 pt2) X.env = pure (some [x, y]))
    (hs : swapsWithSole [.Tuple [.Name x px, .Name y py] kt pt] (.Tuple [a, b] k2 pt2) pos.line X.env = pure false := by rfl) :
    PS X (.Assign [.Tuple [.Name x px, .Name y py] kt pt] (.Tuple [a, b] k2 pt2) pos) (tPar i j ta) := by
  intro pins s σ H D I h
  rw [exec_Assign_arm]
  refine wpAny_bind (wpAny_standAt ?_)
  rw [hs]
  refine wpAny_bind (wpAny_pure ?_)
  rw [if_neg (by decide)]
  refine wpAny_bind (Tuple_ (thn (ha _ pins s σ H _ I h) fun us s1 ⟨vs, H1, I1, r1, q1⟩ => ?_))
  obtain ⟨v, w, e1, q1⟩ := q1
  subst e1
  obtain ⟨u1, u2, rfl, rv, rw'⟩ : ∃ u1 u2, us = [u1, u2] ∧ RelV v u1 ∧ RelV w u2 := by
    cases r1 with
    | cons p q =>
      cases q with
      | cons p' q' =>
        cases q'
        exact ⟨_, _, rfl, p, p'⟩
  refine wpAny_newObj_type ?_ (by show 2 ≤ sizeLine; decide)
  have I2 : Inv X pins σ H1 { s1 with heap := s1.heap.push { cls := .type "tuple", data := .seq [u1, u2].toArray } } := I1.kept (t' := s1.toks) fun b o e => Heap.get?_push_of_some _ e
  rw [hw]
  refine wpAny_bind (wpAny_pure ?_)
  show wpAny (model X.prog X.w) X.A (do rule "assign.swapped-stores"; let items ← unpackItems (.ref s1.heap.objs.size) 2 none; assignInOrder [fun v => bindName X.env y v, fun v => bindName X.env x v] items.reverse; pure Flow.next) _ _ _
  refine wpAny_bind (wpAny_rule (wpAny_bind (unpackItems_tuple (items := #[u1, u2]) (I.ok.hd hc) (IsTup.new s1.heap _) fun h' hx' => ?_)))
  have I3 := I2.kept (h' := h') (t' := s1.toks) fun b o e => hx' b o (Nat.ne_of_lt (Heap.lt_size e)) e
  show wpAny _ _ (assignInOrder [fun v => bindName X.env y v, fun v => bindName X.env x v] [u2, u1] >>= fun _ => pure Flow.next) _ _ _
  refine wpAny_bind (assignInOrder_cons (wpAny_bindName (store_ok I3 hN hj (.inl hy) rw' (fun s2 I4 => ?_) (.inr hy))))
  refine assignInOrder_cons (wpAny_bindName (store_ok I4 hN hi (.inl hx) rv (fun s3 I5 => assignInOrder_nil (wpAny_pure ?_)) (.inr hx)))
  rw [List.set_comm _ _ (Ne.symm hij)] at I5
  exact ⟨_, H1, I5, q1⟩
/-- name op= e -/
def tAug (i : Nat) (te : TE) (ti : TIp) : TS := fun D σ H => ∃ x, σ[i]? = some (some x) ∧ te σ H fun y H1 => ti x y H1 fun z H2 => D.nx (σ.set i (some z)) H2
/-- o[i] op= e -/
def tAugS (to ti te : TE) (tget : V → V → Hp → VK → Prop) (tip : TIp) (tset : TSet) : TS := fun D σ H => to σ H fun o H1 => ti σ H1 fun i H2 => tget o i H2 fun x H3 => te σ H3 fun y H4 => tip x y H4 fun z H5 => tset o i z H5 fun H6 => D.nx σ H6
/-- o[i], by values -/
def PGet (X : Cx) (t : V → V → Hp → VK → Prop) : Prop :=
  ∀ (pins : List (Addr × Obj)) (s : Shared) (σ : St) (H : Hp) (o i : V) (ov iv : Value) (Q : VK), Inv X pins σ H s → RelV o ov → RelV i iv → t o i H Q →
    wpAny (model X.prog X.w) X.A (getItem ov iv) (EP X pins σ Q) X.xe s
/-- ints -/
def ipI (f : Int → Int → Int) : TIp := fun x y H Q => ∃ i j, x = .int i ∧ y = .int j ∧ Q (.int (f i j)) H
end

/-! ### while -/
section
variable {X : Cx} {pos : Pos}
/-- the invariant W with its measure -/
def tWhile (c : TT) (tb : TS) : TS := fun D σ H => ∃ W : Nat → St → Hp → Prop, (∃ m, W m σ H) ∧ ∀ m σ H, W m σ H →
  c σ H fun b H1 => if b = true then ∃ N : St → Hp → Prop, (∀ σ' H', N σ' H' → ∃ m', m' < m ∧ W m' σ' H') ∧ tb { D with nx := N, ct := N, bk := D.nx } σ H1 else D.nx σ H1
theorem ps_while {c : Expr} {body : List Stmt} {tc : TT} {tb : TS} (hp : PassesOwn (model X.prog X.w) X.A X.env X.xe) (hc : PT X c tc) (hb : PSs X body tb) : PS X (.While c body [] pos) (tWhile tc tb) := by
  intro pins s σ H D I h
  obtain ⟨W, ⟨m0, w0⟩, turn⟩ := h
  refine wpAny_While (codeAny_whileLoop (fun n s' => ∃ σ' H', Inv X pins σ' H' s' ∧ W n σ' H') ?_ m0 ⟨σ, H, I, w0⟩)
  rintro n s1 ⟨σ1, H1, I1, w1⟩
  refine wpAny_passesOwn hp (thn (hc pins s1 σ1 H1 _ I1 (turn n σ1 H1 w1)) fun b s2 ⟨H2, I2, q2⟩ => ?_)
  cases b with
  | true =>
    obtain ⟨N, hN, q2⟩ := q2
    rw [if_pos rfl]
    refine wpAny_passesOwn hp (thn (hb pins s2 σ1 H2 _ I2 q2) fun f s3 q3 => ?_)
    cases f with
    | next =>
      obtain ⟨σ3, H3, I3, n3⟩ := q3
      obtain ⟨m', hm, w3⟩ := hN σ3 H3 n3
      exact ⟨m', hm, σ3, H3, I3, w3⟩
    | cont =>
      obtain ⟨σ3, H3, I3, n3⟩ := q3
      obtain ⟨m', hm, w3⟩ := hN σ3 H3 n3
      exact ⟨m', hm, σ3, H3, I3, w3⟩
    | brk => exact q3
    | ret v => exact q3
  | false =>
    rw [if_neg Bool.false_ne_true]
    exact wpAny_execs_nil ⟨σ1, H2, I2, q2⟩
end

/-! ### what a loop or a comprehension walks -/
/-- at turn i: it yields x (the heap may grow), or it stops -/
structure It where
  go : Nat → Hp → Prop
  yld : Nat → Hp → V → Hp → Prop
  stop : Nat → Hp → Prop
/-- the iterator's own objects may turn: they are not the frame's, not pinned, younger than the entry (or a comprehension's own) -/
def FpOk (X : Cx) (pins : List (Addr × Obj)) (H : Hp) (b : Addr) : Prop :=
  H b = none ∧ b ≠ X.env.locals ∧ b ∉ X.fs ∧ (b ∈ X.ex ∨ X.s₀.heap.objs.size ≤ b) ∧ (∀ x c, X.env.cells.lookup x = some c → c ≠ b) ∧ ∀ p ∈ X.pn ++ pins, p.1 ≠ b
theorem Inv.fpOk {X : Cx} {pins : List (Addr × Obj)} {σ : St} {H H' : Hp} {s : Shared} {b : Addr} (I : Inv X pins σ H s) (hb : s.heap.objs.size ≤ b) (hn : H' b = none) : FpOk X pins H' b := by
  refine ⟨hn, Nat.ne_of_gt (Nat.lt_of_lt_of_le I.lt hb), I.nofs hb, .inr (Nat.le_trans I.sz hb), fun x c e z => ?_, fun p hp z => ?_⟩
  · obtain ⟨v, q⟩ := I.cell x c e
    exact absurd (Nat.lt_of_lt_of_le q.lt (by rw [z]; exact hb)) (Nat.lt_irrefl _)
  · exact absurd (Nat.lt_of_lt_of_le (Heap.lt_size (I.pin p hp).1) (by rw [z]; exact hb)) (Nat.lt_irrefl _)
structure Turn (P : Program) (w : World) (K : PySem.W.Frag) (tg : Expr) (J : It) (fp : List Addr) (it : Addr) (tn : Nat → Heap → Prop) : Prop where
  mem : it ∈ fp
  obj : ∀ i h, tn i h → ∀ b ∈ fp, ∃ o, h.get? b = some o ∧ ∀ v, o.data ≠ .cell v
  keep : ∀ i h h', tn i h → (∀ b ∈ fp, ∀ o, h.get? b = some o → h'.get? b = some o) → tn i h'
  item : ∀ (X : Cx), X.prog = P → X.w = w → X.K = K → X.calm = true → ∀ (i : Nat) (pins : List (Addr × Obj)) (s : Shared) (σ : St) (H : Hp) (E : Value → Shared → Prop), Inv X pins σ H s → (∀ b ∈ fp, FpOk X pins H b) → tn i s.heap → J.go i H →
    wpAny (model P w) X.A (pyNext (.ref it)) (fun r s1 => ∃ u, r = some u ∧
      wpAny (model P w) X.A (letOwnedTupleGo tg (.ref it) u) (fun _ s2 => ∃ x H', Inv X pins σ H' s2 ∧ RelV x u ∧ J.yld i H x H' ∧ tn (i + 1) s2.heap ∧ ∀ b ∈ fp, H' b = none) E s1) E s
  done : ∀ (X : Cx), X.prog = P → X.w = w → X.K = K → X.calm = true → ∀ (i : Nat) (pins : List (Addr × Obj)) (s : Shared) (σ : St) (H : Hp) (E : Value → Shared → Prop), Inv X pins σ H s → (∀ b ∈ fp, FpOk X pins H b) → tn i s.heap → J.stop i H →
    wpAny (model P w) X.A (pyNext (.ref it)) (fun r s1 => r = none ∧ Inv X pins σ H s1) E s
  self : ∀ (A : Around) (i : Nat) (s : Shared) (Q : Value → Shared → Prop) (E : Value → Shared → Prop), tn i s.heap → Q (.ref it) s → wpAny (model P w) A (pyIter (.ref it)) Q E s
abbrev TI := St → Hp → (It → Hp → Prop) → Prop
/-- an iterator has come -/
def PIE (X : Cx) (pins : List (Addr × Obj)) (σ : St) (tg : Expr) (R : It → Hp → Prop) (itv : Value) (s2 : Shared) : Prop :=
  ∃ (it : Addr) (fp : List Addr) (tn : Nat → Heap → Prop) (J : It) (H' : Hp), itv = .ref it ∧ Inv X pins σ H' s2 ∧ Turn X.prog X.w X.K tg J fp it tn ∧ tn 0 s2.heap ∧ (∀ b ∈ fp, FpOk X pins H' b) ∧ R J H'
def PI (X : Cx) (tg iter : Expr) (wi : TI) : Prop :=
  ∀ (pins : List (Addr × Obj)) (s : Shared) (σ : St) (H : Hp) (R : It → Hp → Prop), Inv X pins σ H s → wi σ H R →
    wpAny (model X.prog X.w) X.A (eval iter X.env) (fun v s1 => wpAny (model X.prog X.w) X.A (pyIter v) (PIE X pins σ tg R) X.xe s1) X.xe s

/-- the step ahead of the store is nothing for an iterator that keeps no tuple -/
theorem go_of {M : Model} {A : Around} {E : Value → Shared → Prop} {s : Shared} {tg : Expr} {it : Addr} {u : Value} {o : Obj} {n : String} {vs : Array Value} {Q : Unit → Shared → Prop} (ho : s.heap.get? it = some o) (hc : o.cls = .type n) (hd : o.data = .fields vs)
    (hn : ["enumerate", "zip", "dict_itemiterator", "dict_reverseitemiterator", "odict_iterator", "itertools.zip_longest", "itertools.pairwise"].contains n = false) (hQ : Q () s) : wpAny M A (letOwnedTupleGo tg (.ref it) u) Q E s := by
  unfold letOwnedTupleGo
  cases tg <;> first
    | exact wpAny_pure hQ
    | (cases u <;> first
        | exact wpAny_pure hQ
        | (refine wpAny_bind (wpAny_load ho ?_)
           rw [hc, hd]
           show wpAny M A (if (["enumerate", "zip", "dict_itemiterator", "dict_reverseitemiterator", "odict_iterator", "itertools.zip_longest", "itertools.pairwise"].contains n && vs[0]? == some (rawInt _)) = true then _ else _) Q E s
           rw [if_neg (by intro h; rw [hn, Bool.false_and] at h; cases h)]
           exact wpAny_pure hQ))

/-- the list at a, as it stands at each turn (a loop may append to it) -/
def Itl (K : PySem.W.Frag) (a : Addr) : It :=
  ⟨fun i H => ∃ xs x, SqL K H a xs ∧ xs[i]? = some x, fun i H x H' => H' = H ∧ ∀ xs, SqL K H a xs → xs[i]? = some x, fun i H => ∃ xs, SqL K H a xs ∧ xs.length ≤ i⟩
def Itt (K : PySem.W.Frag) (a : Addr) : It :=
  ⟨fun i H => ∃ xs x, SqT K H a xs ∧ xs[i]? = some x, fun i H x H' => H' = H ∧ ∀ xs, SqT K H a xs → xs[i]? = some x, fun i H => ∃ xs, SqT K H a xs ∧ xs.length ≤ i⟩
/-- lo, lo + 1, .. (n of them) -/
def Itr (lo : Int) (n : Nat) : It := ⟨fun i _ => i < n, fun i H x H' => H' = H ∧ x = .int (lo + i), fun i _ => n ≤ i⟩
theorem turn_list {P : Program} {w : World} {K : PySem.W.Frag} {tg : Expr} (a it : Addr) : Turn P w K tg (Itl K a) [it] it (fun i h => h.IsListIter it a i) where
  mem := by simp
  obj := fun i h st b hb => by
    have e : b = it := by simpa using hb
    subst e
    obtain ⟨o, e, c, d⟩ := st
    exact ⟨o, e, fun v z => by rw [d] at z; cases z⟩
  keep := fun i h h' st k => st.at fun o e => k it (by simp) o e
  item := by
    intro X hP hw hK hc i pins s σ H E I hf st hg
    subst hP hw hK
    obtain ⟨xs, x, hq, hx⟩ := hg
    obtain ⟨its, rv, p, hz⟩ := I.list hq
    obtain ⟨u, hu, ru⟩ := rv.get hx
    obtain ⟨f0, f1, f2, f3, f4, f5⟩ := hf it (by simp)
    refine wpAny_pyNext_list_item st p.isList (x := u) (by simpa using hu) fun h' st' sb => ?_
    have I1 : Inv X pins σ H { s with heap := h' } := I.turned (t' := s.toks) (fun b o hb e => (sb.2 b hb).trans e) f0 f1 f3 f4 f5
    obtain ⟨o, e, c, d⟩ := id st'
    exact ⟨u, rfl, go_of (s := { s with heap := h' }) e c d (by decide) ⟨x, H, I1, ru, ⟨rfl, fun ys hy => by rw [I.list_inj hy hq]; exact hx⟩, st', fun b hb => (hf b hb).1⟩⟩
  done := by
    intro X hP hw hK hc i pins s σ H E I hf st hg
    subst hP hw hK
    obtain ⟨xs, hq, hx⟩ := hg
    obtain ⟨its, rv, p, hz⟩ := I.list hq
    obtain ⟨f0, f1, f2, f3, f4, f5⟩ := hf it (by simp)
    have hl := rv.length
    exact wpAny_pyNext_list_end (I.ok.hd hc) st p.isList (by simp; omega) fun h' eb => ⟨rfl, I.turned (t' := s.toks) (fun b o hb e => eb b o hb e) f0 f1 f3 f4 f5⟩
  self := fun _ _ _ _ _ st h => wpAny_pyIter_listiter st h
theorem turn_tuple {P : Program} {w : World} {K : PySem.W.Frag} {tg : Expr} (a it : Addr) : Turn P w K tg (Itt K a) [it] it (fun i h => h.IsTupleIter it a i) where
  mem := by simp
  obj := fun i h st b hb => by
    have e : b = it := by simpa using hb
    subst e
    obtain ⟨o, e, c, d⟩ := st
    exact ⟨o, e, fun v z => by rw [d] at z; cases z⟩
  keep := fun i h h' st k => st.at fun o e => k it (by simp) o e
  item := by
    intro X hP hw hK hc i pins s σ H E I hf st hg
    subst hP hw hK
    obtain ⟨xs, x, hq, hx⟩ := hg
    obtain ⟨its, rv, p, hz⟩ := I.tuple hq
    obtain ⟨u, hu, ru⟩ := rv.get hx
    obtain ⟨f0, f1, f2, f3, f4, f5⟩ := hf it (by simp)
    refine wpAny_pyNext_tuple_item st (show s.heap.IsTuple a its.toArray from p) (x := u) (by simpa using hu) fun h' st' sb => ?_
    have I1 : Inv X pins σ H { s with heap := h' } := I.turned (t' := s.toks) (fun b o hb e => (sb.2 b hb).trans e) f0 f1 f3 f4 f5
    obtain ⟨o, e, c, d⟩ := id st'
    exact ⟨u, rfl, go_of (s := { s with heap := h' }) e c d (by decide) ⟨x, H, I1, ru, ⟨rfl, fun ys hy => by rw [I.tuple_inj hy hq]; exact hx⟩, st', fun b hb => (hf b hb).1⟩⟩
  done := by
    intro X hP hw hK hc i pins s σ H E I hf st hg
    subst hP hw hK
    obtain ⟨xs, hq, hx⟩ := hg
    obtain ⟨its, rv, p, hz⟩ := I.tuple hq
    obtain ⟨f0, f1, f2, f3, f4, f5⟩ := hf it (by simp)
    have hl := rv.length
    exact wpAny_pyNext_tuple_end (I.ok.hd hc) st (show s.heap.IsTuple a its.toArray from p) (by simp; omega) fun h' eb => ⟨rfl, I.turned (t' := s.toks) (fun b o hb e => eb b o hb e) f0 f1 f3 f4 f5⟩
  self := fun _ _ _ _ _ st h => wpAny_pyIter_tupleiter st h
theorem turn_range {P : Program} {w : World} {K : PySem.W.Frag} {tg : Expr} (it : Addr) (lo : Int) (n : Nat) : Turn P w K tg (Itr lo n) [it] it (fun i h => IsRangeIter h it (lo + (i : Nat) * 1) ((n : Int) - (i : Nat)) 1) where
  mem := by simp
  obj := fun i h st b hb => by
    have e : b = it := by simpa using hb
    subst e
    exact ⟨_, st, fun v z => by
      have z' : Data.fields _ = Data.cell v := z
      cases z'⟩
  keep := fun i h h' st k => k it (by simp) _ st
  item := by
    intro X hP hw hK hc i pins s σ H E I hf st hg
    subst hP hw hK
    obtain ⟨f0, f1, f2, f3, f4, f5⟩ := hf it (by simp)
    have W := Walks.range (prog := X.prog) (w := X.w) (I.ok.hd hc) it lo 1 n
    refine W.item i s _ _ hg st fun v h' tk hv st' kk => ?_
    obtain ⟨t, rfl⟩ := hv
    have I1 : Inv X pins σ H { s with heap := h', toks := tk } := I.turned (fun b o hb e => kk b o (by simpa using hb) e) f0 f1 f3 f4 f5
    refine ⟨_, rfl, go_of (s := { s with heap := h', toks := tk }) (n := "range_iterator") st' rfl rfl (by decide) ⟨.int (lo + i), H, I1, ⟨t, ?_⟩, ⟨rfl, rfl⟩, st', fun b hb => (hf b hb).1⟩⟩
    rw [Int.mul_one]
  done := by
    intro X hP hw hK hc i pins s σ H E I hf st hg
    subst hP hw hK
    obtain ⟨f0, f1, f2, f3, f4, f5⟩ := hf it (by simp)
    exact wpAny_pyNext_range_end (I.ok.hd hc) st (by have : n ≤ i := hg; omega) fun h' eb => ⟨rfl, I.turned (t' := s.toks) (fun b o hb e => eb b o hb e) f0 f1 f3 f4 f5⟩
  self := fun _ _ _ _ _ st h => wpAny_pyIter_rangeiter st h
end L2

namespace L2
open PySem PySem.Spec PyProof.Rows
section
variable {X : Cx} {tg : Expr}
def iList (K : PySem.W.Frag) (tl : TE) : TI := fun σ H R => tl σ H fun x H1 => ∃ a, x = .ref a ∧ (∃ xs, SqL K H1 a xs) ∧ R (Itl K a) H1
def iTup (K : PySem.W.Frag) (tl : TE) : TI := fun σ H R => tl σ H fun x H1 => ∃ a, x = .ref a ∧ (∃ xs, SqT K H1 a xs) ∧ R (Itt K a) H1
theorem pi_list {l : Expr} {tl : TE} (hl : PE X l tl) : PI X tg l (iList X.K tl) := by
  intro pins s σ H R I h
  refine thn (hl pins s σ H _ I h) fun v s1 ⟨x, H1, I1, r1, q1⟩ => ?_
  obtain ⟨a, e, ⟨xs, hq⟩, q⟩ := q1
  subst e
  cases r1
  obtain ⟨its, rv, p, hz⟩ := I1.list hq
  refine wpAny_pyIter_list p.isList ?_
  refine ⟨s1.heap.objs.size, [s1.heap.objs.size], _, _, H1, rfl, I1.kept (t' := s1.toks) fun b o e => Heap.get?_push_of_some _ e, turn_list a _, ⟨_, Heap.get?_push_size _ rfl, rfl, rfl⟩, fun b hb => ?_, q⟩
  have e : b = s1.heap.objs.size := by simpa using hb
  subst e
  exact I1.fpOk (Nat.le_refl _) (I1.hok.fresh (Nat.le_refl _))
theorem pi_tup {l : Expr} {tl : TE} (hl : PE X l tl) : PI X tg l (iTup X.K tl) := by
  intro pins s σ H R I h
  refine thn (hl pins s σ H _ I h) fun v s1 ⟨x, H1, I1, r1, q1⟩ => ?_
  obtain ⟨a, e, ⟨xs, hq⟩, q⟩ := q1
  subst e
  cases r1
  obtain ⟨its, rv, p, hz⟩ := I1.tuple hq
  refine wpAny_pyIter_tuple (show s1.heap.IsTuple a its.toArray from p) ?_
  refine ⟨s1.heap.objs.size, [s1.heap.objs.size], _, _, H1, rfl, I1.kept (t' := s1.toks) fun b o e => Heap.get?_push_of_some _ e, turn_tuple a _, ⟨_, Heap.get?_push_size _ rfl, rfl, rfl⟩, fun b hb => ?_, q⟩
  have e : b = s1.heap.objs.size := by simpa using hb
  subst e
  exact I1.fpOk (Nat.le_refl _) (I1.hok.fresh (Nat.le_refl _))
/-- a range object just made, walked -/
theorem range_it {pins : List (Addr × Obj)} {σ : St} {H : Hp} {s : Shared} {R : It → Hp → Prop} {E : Value → Shared → Prop} {lo hi : Int} {t u v : Tok} {tk : Nat} (I : Inv X pins σ H s) (h1 : -(2 ^ 62) ≤ lo) (h2 : lo < 2 ^ 62) (h3 : -(2 ^ 62) ≤ hi) (h4 : hi < 2 ^ 62)
    (q : R (Itr lo (hi - lo).toNat) H) : wpAny (model X.prog X.w) X.A (pyIter (.ref s.heap.objs.size)) (PIE X pins σ tg R) E { s with heap := s.heap.push { cls := .type "range", data := .fields #[.int lo t, .int hi u, .int 1 v] }, toks := tk } := by
  refine wpAny_pyIter_range (IsRange.new ..) (small_one h1 h2 h3 h4) ?_
  have I1 : Inv X pins σ H { s with heap := s.heap.push { cls := .type "range", data := .fields #[.int lo t, .int hi u, .int 1 v] }, toks := tk } := I.kept fun b o e => Heap.get?_push_of_some _ e
  refine ⟨(s.heap.push { cls := .type "range", data := .fields #[.int lo t, .int hi u, .int 1 v] }).objs.size, [(s.heap.push { cls := .type "range", data := .fields #[.int lo t, .int hi u, .int 1 v] }).objs.size], _, _, H, rfl,
    I1.kept (t' := tk) fun b o e => Heap.get?_push_of_some _ e, turn_range _ lo (hi - lo).toNat, ?_, fun b hb => ?_, q⟩
  · have e1 : lo + ((0 : Nat) : Int) * 1 = lo := by simp
    have e2 : (((hi - lo).toNat : Nat) : Int) - ((0 : Nat) : Int) = Builtin.Range.rangeSize lo hi 1 := by rw [rangeSize_one]; split <;> omega
    show IsRangeIter _ _ (lo + ((0 : Nat) : Int) * 1) ((((hi - lo).toNat : Nat) : Int) - ((0 : Nat) : Int)) 1
    rw [e1, e2]
    exact Heap.get?_push_size _ rfl
  · have e : b = (s.heap.push { cls := .type "range", data := .fields #[.int lo t, .int hi u, .int 1 v] }).objs.size := by simpa using hb
    subst e
    exact I1.fpOk (Nat.le_refl _) (I1.hok.fresh (Nat.le_refl _))
def iRng1 (ta : TA) : TI := fun σ H R => ta σ H fun vs H1 => ∃ j : Int, vs = [.int j] ∧ -(2 ^ 62) ≤ j ∧ j < 2 ^ 62 ∧ R (Itr 0 j.toNat) H1
def iRng2 (ta : TA) : TI := fun σ H R => ta σ H fun vs H1 => ∃ i j : Int, vs = [.int i, .int j] ∧ (-(2 ^ 62) ≤ i ∧ i < 2 ^ 62 ∧ -(2 ^ 62) ≤ j ∧ j < 2 ^ 62) ∧ R (Itr i (j - i).toNat) H1
theorem pi_range1 {a : Expr} {ta : TA} {p pos : Pos} (hg : Gl X "range") (hm : X.mg "range" = none) (ha : PA X [a] ta) (hs : starEach [a] X.env = [(false, eval a X.env)] := by rfl) : PI X tg (.Call (.Name "range" p) [a] [] pos) (iRng1 ta) := by
  intro pins s σ H R I h
  refine Call_ (ld_blt I hg hm boot_range (PyProof.Rows.callWith_type1 (thn (ha pos pins s σ H _ I h) fun us s1 ⟨vs, H1, I1, r1, q1⟩ => ?_) hs rfl))
  obtain ⟨j, e, q1, q2, q⟩ := q1
  subst e
  cases r1 with
  | cons r rr =>
    cases rr
    obtain ⟨t, rfl⟩ := r
    exact call_range_1 (range_it I1 (by omega) (by omega) q1 q2 (by simpa using q))
theorem pi_range2 {a b : Expr} {ta : TA} {p pos : Pos} (hg : Gl X "range") (hm : X.mg "range" = none) (ha : PA X [a, b] ta) (hs : starEach [a, b] X.env = [(false, eval a X.env), (false, eval b X.env)] := by rfl) (hs2 : starEach [b] X.env = [(false, eval b X.env)] := by rfl) :
    PI X tg (.Call (.Name "range" p) [a, b] [] pos) (iRng2 ta) := by
  intro pins s σ H R I h
  refine Call_ (ld_blt I hg hm boot_range (PyProof.Rows.callWith_type1 (thn (ha pos pins s σ H _ I h) fun us s1 ⟨vs, H1, I1, r1, q1⟩ => ?_) (by rw [hs, hs2]) (by rw [hs2]; rfl)))
  obtain ⟨i, j, e, ⟨q1, q2, q3, q4⟩, q⟩ := q1
  subst e
  cases r1 with
  | cons r rr =>
    cases rr with
    | cons r' rr =>
      cases rr
      obtain ⟨t, rfl⟩ := r
      obtain ⟨t', rfl⟩ := r'
      exact call_range_2 (range_it I1 q1 q2 q3 q4 q)

/-! ### for -/
/-- W: the invariant by the turn and a measure; N: what the body is to reach -/
def tFor (wi : TI) (g : TG) (tb : TS) : TS := fun D σ H => wi σ H fun J H1 => ∃ W : Nat → Nat → St → Hp → Prop, (∃ m, W 0 m σ H1) ∧ ∀ i m σ H, W i m σ H →
  (J.stop i H ∧ D.nx σ H) ∨ (J.go i H ∧ ∃ N : St → Hp → Prop, (∀ σ' H', N σ' H' → ∃ m', m' < m ∧ W (i + 1) m' σ' H') ∧ ∀ x H', J.yld i H x H' → g x σ H' fun σ2 H2 => tb { D with nx := N, ct := N, bk := D.nx } σ2 H2)
/-- the records at fp as they stand -/
def pinsAt (fp : List Addr) (h : Heap) : List (Addr × Obj) := fp.filterMap fun b => (h.get? b).map fun o => (b, o)
theorem mem_pinsAt {fp : List Addr} {h : Heap} {b : Addr} {o : Obj} (hb : b ∈ fp) (e : h.get? b = some o) : (b, o) ∈ pinsAt fp h := List.mem_filterMap.mpr ⟨b, hb, by rw [e]; rfl⟩
theorem of_pinsAt {fp : List Addr} {h : Heap} {p : Addr × Obj} (hp : p ∈ pinsAt fp h) : p.1 ∈ fp ∧ h.get? p.1 = some p.2 := by
  obtain ⟨b, hb, e⟩ := List.mem_filterMap.mp hp
  cases q : h.get? b with
  | none => rw [q] at e; cases e
  | some o =>
    rw [q] at e
    have e' : (b, o) = p := Option.some.inj e
    subst e'
    exact ⟨hb, q⟩
theorem Inv.pinned {pins : List (Addr × Obj)} {σ : St} {H : Hp} {s : Shared} {fp : List Addr} (I : Inv X pins σ H s) (hf : ∀ b ∈ fp, FpOk X pins H b) (ho : ∀ b ∈ fp, ∃ o, s.heap.get? b = some o ∧ ∀ v, o.data ≠ .cell v) : Inv X (pins ++ pinsAt fp s.heap) σ H s :=
  I.pins_of fun p hp => (List.mem_append.mp hp).elim (fun z => I.pin p (List.mem_append_right _ z)) fun z => by
    obtain ⟨hb, e⟩ := of_pinsAt z
    obtain ⟨f0, f1, f2, _⟩ := hf p.1 hb
    obtain ⟨o, e', d⟩ := ho p.1 hb
    rw [e] at e'; cases e'
    exact ⟨e, f0, f1, f2, d⟩
theorem Inv.unpinned {pins pl : List (Addr × Obj)} {σ : St} {H : Hp} {s : Shared} (I : Inv X (pins ++ pl) σ H s) : Inv X pins σ H s := I.pins_of fun p hp => I.pin p (List.mem_append_right _ (List.mem_append_left _ hp))
theorem ps_for {iter : Expr} {body : List Stmt} {wi : TI} {g : TG} {tb : TS} {pos : Pos} (hp : PassesOwn (model X.prog X.w) X.A X.env X.xe) (hc : X.calm = true) (hi : PI X tg iter wi) (hg : PG X tg g) (hb : PSs X body tb)
    (hs : ∀ x, foldedSetIterable iter X.env x = pure x := by intro _; rfl) : PS X (.For tg iter body [] pos) (tFor wi g tb) := by
  intro pins s σ H D I h
  refine wpAny_For (thn (hi pins s σ H _ I h) fun v s1 h1 => thn h1 fun itv s2 h2 => ?_) hs
  obtain ⟨it, fp, tn, J, H2, e, I2, T, st2, f2, W, ⟨m0, w0⟩, turn⟩ := h2
  subst e
  -- what stays true of the iterator's objects through the loop
  have stat : ∀ {H' : Hp}, (∀ b ∈ fp, H' b = none) → ∀ b ∈ fp, FpOk X pins H' b := fun hn b hb => ⟨hn b hb, (f2 b hb).2⟩
  refine codeAny_forLoop_any (fun n s' => ∃ i σ' H', Inv X pins σ' H' s' ∧ tn i s'.heap ∧ (∀ b ∈ fp, H' b = none) ∧ W i n σ' H') ?_ m0 ⟨0, σ, H2, I2, st2, fun b hb => (f2 b hb).1, w0⟩
  rintro n s3 ⟨i, σ3, H3, I3, st3, fr3, w3⟩
  rcases turn i n σ3 H3 w3 with ⟨stop, qn⟩ | ⟨go, N, hN, step⟩
  · refine wpAny_passesOwn hp (thn (T.done X rfl rfl rfl hc i pins s3 σ3 H3 X.xe I3 (stat fr3) st3 stop) fun r s4 ⟨hr, I4⟩ => ?_)
    subst hr
    exact wpAny_execs_nil ⟨σ3, H3, I4, qn⟩
  · refine wpAny_passesOwn hp (thn (T.item X rfl rfl rfl hc i pins s3 σ3 H3 X.xe I3 (stat fr3) st3 go) fun r s4 ⟨u, hr, h4⟩ => ?_)
    subst hr
    refine wpAny_passesOwn hp (thn h4 fun _ s5 ⟨x, H5, I5, r5, y5, st5, fr5⟩ => ?_)
    have I5' := I5.pinned (stat fr5) (T.obj _ _ st5)
    refine wpAny_passesOwn hp (thn (hg _ s5 σ3 H5 x u _ I5' r5 (step x H5 y5)) fun _ s6 ⟨σ6, H6, I6, q6⟩ => ?_)
    refine wpAny_passesOwn hp (thn (hb _ s6 σ6 H6 _ I6 q6) fun f s7 q7 => ?_)
    have again : ∀ {σ7 : St} {H7 : Hp}, Inv X (pins ++ pinsAt fp s5.heap) σ7 H7 s7 → N σ7 H7 → ∃ m, m < n ∧ ∃ i σ' H', Inv X pins σ' H' s7 ∧ tn i s7.heap ∧ (∀ b ∈ fp, H' b = none) ∧ W i m σ' H' := fun {σ7 H7} I7 n7 => by
      obtain ⟨m', hm, w7⟩ := hN σ7 H7 n7
      refine ⟨m', hm, i + 1, σ7, H7, I7.unpinned, T.keep _ _ _ st5 fun b hb o e => (I7.pin (b, o) (List.mem_append_right _ (List.mem_append_right _ (mem_pinsAt hb e)))).1, fun b hb => ?_, w7⟩
      obtain ⟨o, e, d⟩ := T.obj _ _ st5 b hb
      exact (I7.pin (b, o) (List.mem_append_right _ (List.mem_append_right _ (mem_pinsAt hb e)))).2.1
    cases f with
    | next => obtain ⟨σ7, H7, I7, n7⟩ := q7; exact again I7 n7
    | cont => obtain ⟨σ7, H7, I7, n7⟩ := q7; exact again I7 n7
    | brk => obtain ⟨σ7, H7, I7, q7⟩ := q7; exact ⟨σ7, H7, I7.unpinned, q7⟩
    | ret v => obtain ⟨x7, σ7, H7, I7, r7, q7⟩ := q7; exact ⟨x7, σ7, H7, I7.unpinned, r7, q7⟩
end

/-! ### the forms one uses -/
/-- over a list that the body leaves as it is -/
theorem for_list {K : PySem.W.Frag} {a : Addr} {xs : List V} {g : TG} {tb : TS} {D : Ends} {σ : St} {H : Hp} (Pv : Nat → St → Hp → Prop) (h0 : Pv 0 σ H) (hl : ∀ i σ H, i ≤ xs.length → Pv i σ H → SqL K H a xs)
    (hs : ∀ i x σ H, xs[i]? = some x → Pv i σ H → g x σ H fun σ2 H2 => tb { D with nx := Pv (i + 1), ct := Pv (i + 1), bk := D.nx } σ2 H2) (hd : ∀ σ H, Pv xs.length σ H → D.nx σ H) :
    ∃ W : Nat → Nat → St → Hp → Prop, (∃ m, W 0 m σ H) ∧ ∀ i m σ H, W i m σ H →
      ((Itl K a).stop i H ∧ D.nx σ H) ∨ ((Itl K a).go i H ∧ ∃ N : St → Hp → Prop, (∀ σ' H', N σ' H' → ∃ m', m' < m ∧ W (i + 1) m' σ' H') ∧ ∀ x H', (Itl K a).yld i H x H' → g x σ H' fun σ2 H2 => tb { D with nx := N, ct := N, bk := D.nx } σ2 H2) := by
  refine ⟨fun i m σ H => m = xs.length - i ∧ i ≤ xs.length ∧ Pv i σ H, ⟨xs.length, by simp, Nat.zero_le _, h0⟩, ?_⟩
  rintro i m σ H ⟨rfl, hi, p⟩
  have q := hl i σ H hi p
  by_cases hlt : i < xs.length
  · refine .inr ⟨⟨xs, xs[i], q, by simp [hlt]⟩, Pv (i + 1), fun σ' H' p' => ⟨xs.length - (i + 1), by omega, rfl, hlt, p'⟩, fun x H' y => ?_⟩
    obtain ⟨e, y⟩ := y
    subst e
    exact hs i x σ _ (y xs q) p
  · have e : i = xs.length := by omega
    subst e
    exact .inl ⟨⟨xs, q, Nat.le_refl _⟩, hd σ H p⟩
theorem for_tup {K : PySem.W.Frag} {a : Addr} {xs : List V} {g : TG} {tb : TS} {D : Ends} {σ : St} {H : Hp} (Pv : Nat → St → Hp → Prop) (h0 : Pv 0 σ H) (hl : ∀ i σ H, i ≤ xs.length → Pv i σ H → SqT K H a xs)
    (hs : ∀ i x σ H, xs[i]? = some x → Pv i σ H → g x σ H fun σ2 H2 => tb { D with nx := Pv (i + 1), ct := Pv (i + 1), bk := D.nx } σ2 H2) (hd : ∀ σ H, Pv xs.length σ H → D.nx σ H) :
    ∃ W : Nat → Nat → St → Hp → Prop, (∃ m, W 0 m σ H) ∧ ∀ i m σ H, W i m σ H →
      ((Itt K a).stop i H ∧ D.nx σ H) ∨ ((Itt K a).go i H ∧ ∃ N : St → Hp → Prop, (∀ σ' H', N σ' H' → ∃ m', m' < m ∧ W (i + 1) m' σ' H') ∧ ∀ x H', (Itt K a).yld i H x H' → g x σ H' fun σ2 H2 => tb { D with nx := N, ct := N, bk := D.nx } σ2 H2) := by
  refine ⟨fun i m σ H => m = xs.length - i ∧ i ≤ xs.length ∧ Pv i σ H, ⟨xs.length, by simp, Nat.zero_le _, h0⟩, ?_⟩
  rintro i m σ H ⟨rfl, hi, p⟩
  have q := hl i σ H hi p
  by_cases hlt : i < xs.length
  · refine .inr ⟨⟨xs, xs[i], q, by simp [hlt]⟩, Pv (i + 1), fun σ' H' p' => ⟨xs.length - (i + 1), by omega, rfl, hlt, p'⟩, fun x H' y => ?_⟩
    obtain ⟨e, y⟩ := y
    subst e
    exact hs i x σ _ (y xs q) p
  · have e : i = xs.length := by omega
    subst e
    exact .inl ⟨⟨xs, q, Nat.le_refl _⟩, hd σ H p⟩
theorem for_range {lo : Int} {n : Nat} {g : TG} {tb : TS} {D : Ends} {σ : St} {H : Hp} (Pv : Nat → St → Hp → Prop) (h0 : Pv 0 σ H)
    (hs : ∀ i σ H, i < n → Pv i σ H → g (.int (lo + i)) σ H fun σ2 H2 => tb { D with nx := Pv (i + 1), ct := Pv (i + 1), bk := D.nx } σ2 H2) (hd : ∀ σ H, Pv n σ H → D.nx σ H) :
    ∃ W : Nat → Nat → St → Hp → Prop, (∃ m, W 0 m σ H) ∧ ∀ i m σ H, W i m σ H →
      ((Itr lo n).stop i H ∧ D.nx σ H) ∨ ((Itr lo n).go i H ∧ ∃ N : St → Hp → Prop, (∀ σ' H', N σ' H' → ∃ m', m' < m ∧ W (i + 1) m' σ' H') ∧ ∀ x H', (Itr lo n).yld i H x H' → g x σ H' fun σ2 H2 => tb { D with nx := N, ct := N, bk := D.nx } σ2 H2) := by
  refine ⟨fun i m σ H => m = n - i ∧ i ≤ n ∧ Pv i σ H, ⟨n, by simp, Nat.zero_le _, h0⟩, ?_⟩
  rintro i m σ H ⟨rfl, hi, p⟩
  by_cases hlt : i < n
  · refine .inr ⟨hlt, Pv (i + 1), fun σ' H' p' => ⟨n - (i + 1), by omega, rfl, hlt, p'⟩, fun x H' y => ?_⟩
    obtain ⟨e, y⟩ := y
    subst e y
    exact hs i σ _ hlt p
  · have e : i = n := by omega
    subst e
    exact .inl ⟨Nat.le_refl _, hd σ H p⟩
end L2

namespace L2
open PySem PySem.Spec PyProof.Rows

abbrev R2 := V → V → Hp → VK → Prop
/-- a two-place operation on values: f is binaryOp op, inplaceOp op or compareOp op -/
def OpR (X : Cx) (f : Value → Value → Sem Value) (r : R2) : Prop :=
  ∀ (pins : List (Addr × Obj)) (s : Shared) (σ : St) (H : Hp) (x y : V) (v u : Value) (Q : VK), Inv X pins σ H s → RelV x v → RelV y u → r x y H Q →
    wpAny (model X.prog X.w) X.A (f v u) (EP X pins σ Q) X.xe s
/-- a one-place operation -/
def UnR (X : Cx) (f : Value → Sem Value) (r : V → Hp → VK → Prop) : Prop :=
  ∀ (pins : List (Addr × Obj)) (s : Shared) (σ : St) (H : Hp) (x : V) (v : Value) (Q : VK), Inv X pins σ H s → RelV x v → r x H Q →
    wpAny (model X.prog X.w) X.A (f v) (EP X pins σ Q) X.xe s
/-- a call of a value that is known (a builtin, a type) with values -/
def CallR (X : Cx) (f : Value) (r : List V → Hp → VK → Prop) : Prop :=
  ∀ (pins : List (Addr × Obj)) (s : Shared) (σ : St) (H : Hp) (xs : List V) (us : List Value) (Q : VK), Inv X pins σ H s → Vals xs us → r xs H Q →
    wpAny (model X.prog X.w) X.A (call f us) (EP X pins σ Q) X.xe s
/-- a value's truth -/
def TruR (X : Cx) (r : V → Hp → (Bool → Hp → Prop) → Prop) : Prop :=
  ∀ (pins : List (Addr × Obj)) (s : Shared) (σ : St) (H : Hp) (x : V) (v : Value) (Q : Bool → Hp → Prop), Inv X pins σ H s → RelV x v → r x H Q →
    wpAny (model X.prog X.w) X.A (truthy v) (TP X pins σ Q) X.xe s

def tOp (r : R2) (ta tb : TE) : TE := fun σ H Q => ta σ H fun x H1 => tb σ H1 fun y H2 => r x y H2 Q
def tUn (r : V → Hp → VK → Prop) (ta : TE) : TE := fun σ H Q => ta σ H fun x H1 => r x H1 Q
/-- ints in, under C, and a value out -/
def rI (C : Int → Int → Prop) (g : Int → Int → V) : R2 := fun x y H Q => ∃ i j, x = .int i ∧ y = .int j ∧ C i j ∧ Q (g i j) H
def rI0 (g : Int → Int → V) : R2 := fun x y H Q => ∃ i j, x = .int i ∧ y = .int j ∧ Q (g i j) H
def rU (g : Int → V) : V → Hp → VK → Prop := fun x H Q => ∃ i, x = .int i ∧ Q (g i) H

section
variable {X : Cx} {a b c : Expr} {ta tb tc : TE} {pos : Pos}

theorem binT (ha : PE X a ta) (hb : PE X b tb) {pins : List (Addr × Obj)} {s : Shared} {σ : St} {H : Hp} {R : V → V → Hp → Prop} (I : Inv X pins σ H s)
    (h : ta σ H fun x H1 => tb σ H1 fun y H2 => R x y H2) {Q : Value → Shared → Prop} {f : Value → Value → Sem Value}
    (hf : ∀ v u s2 x y H2, Inv X pins σ H2 s2 → RelV x v → RelV y u → R x y H2 → wpAny (model X.prog X.w) X.A (f v u) Q X.xe s2) :
    wpAny (model X.prog X.w) X.A (eval a X.env) (fun v s₁ => wpAny (model X.prog X.w) X.A (eval b X.env) (fun u s₂ => wpAny (model X.prog X.w) X.A (f v u) Q X.xe s₂) X.xe s₁) X.xe s := by
  refine thn (ha pins s σ H _ I h) fun v s1 ⟨x, H1, I1, r1, q1⟩ => ?_
  refine thn (hb pins s1 σ H1 _ I1 q1) fun u s2 ⟨y, H2, I2, r2, q2⟩ => ?_
  exact hf v u s2 x y H2 I2 r1 r2 q2

theorem pe_op {op : Operator} {r : R2} (ho : OpR X (binaryOp op) r) (ha : PE X a ta) (hb : PE X b tb) : PE X (.BinOp a op b pos) (tOp r ta tb) := by
  intro pins s σ H Q I h
  exact wpAny_BinOp (binT ha hb I h fun v u s2 x y H2 I2 rx ry q => ho pins s2 σ H2 x y v u Q I2 rx ry q)
theorem pe_un {op : UnaryOp} {r : V → Hp → VK → Prop} (ho : UnR X (unaryOp op) r) (ha : PE X a ta) : PE X (.UnaryOp op a pos) (tUn r ta) := by
  intro pins s σ H Q I h
  exact UnaryOp_ (thn (ha pins s σ H _ I h) fun v s1 ⟨x, H1, I1, r1, q1⟩ => ho pins s1 σ H1 x v Q I1 r1 q1)
/-! ### ints -/
theorem opI {f : Value → Value → Sem Value} {C : Int → Int → Prop} {g : Int → Int → Int}
    (rule : ∀ (i j : Int) (t u : Tok) (s : Shared) (Q : Value → Shared → Prop) (E : Value → Shared → Prop), C i j → Q (.int (g i j) s.toks) { s with toks := s.toks + 1 } → wpAny (model X.prog X.w) X.A (f (.int i t) (.int j u)) Q E s) :
    OpR X f (rI C fun i j => .int (g i j)) := by
  intro pins s σ H x y v u Q I rx ry h
  obtain ⟨i, j, rfl, rfl, hc, q⟩ := h
  obtain ⟨t, rfl⟩ := rx
  obtain ⟨t', rfl⟩ := ry
  exact rule i j t t' s _ _ hc ⟨.int (g i j), H, I.tok _, ⟨_, rfl⟩, q⟩
theorem opI0 {f : Value → Value → Sem Value} {g : Int → Int → Int}
    (rule : ∀ (i j : Int) (t u : Tok) (s : Shared) (Q : Value → Shared → Prop) (E : Value → Shared → Prop), Q (.int (g i j) s.toks) { s with toks := s.toks + 1 } → wpAny (model X.prog X.w) X.A (f (.int i t) (.int j u)) Q E s) :
    OpR X f (rI0 fun i j => .int (g i j)) := by
  intro pins s σ H x y v u Q I rx ry h
  obtain ⟨i, j, rfl, rfl, q⟩ := h
  obtain ⟨t, rfl⟩ := rx
  obtain ⟨t', rfl⟩ := ry
  exact rule i j t t' s _ _ ⟨.int (g i j), H, I.tok _, ⟨_, rfl⟩, q⟩
theorem opB0 {f : Value → Value → Sem Value} {g : Int → Int → Bool}
    (rule : ∀ (i j : Int) (t u : Tok) (s : Shared) (Q : Value → Shared → Prop) (E : Value → Shared → Prop), Q (.bool (g i j)) s → wpAny (model X.prog X.w) X.A (f (.int i t) (.int j u)) Q E s) :
    OpR X f (rI0 fun i j => .bl (g i j)) := by
  intro pins s σ H x y v u Q I rx ry h
  obtain ⟨i, j, rfl, rfl, q⟩ := h
  obtain ⟨t, rfl⟩ := rx
  obtain ⟨t', rfl⟩ := ry
  exact rule i j t t' s _ _ ⟨.bl (g i j), H, I, rfl, q⟩

def CDiv (i j : Int) : Prop := 0 < j ∧ j < 1073741824
def CDivN (i j : Int) : Prop := j ≠ 0 ∧ j.natAbs < 1073741824
def CPow (i j : Int) : Prop := 0 ≤ j ∧ j ≤ 1000000 ∧ i.natAbs < 2 ^ 64
def CMul (i j : Int) : Prop := (-(2 ^ 64) < i ∧ i < 2 ^ 64) ∨ (-(2 ^ 64) < j ∧ j < 2 ^ 64)
theorem CMul.ok {i j : Int} (h : CMul i j) : IntMulOk i j := by
  rcases h with ⟨h1, h2⟩ | ⟨h1, h2⟩
  · exact .of_left (intBits_le_64 h1 h2)
  · exact .of_right (intBits_le_64 h1 h2)
theorem op_add : OpR X (binaryOp .Add) (rI0 fun i j => .int (i + j)) := opI0 fun _ _ _ _ _ _ _ q => add_int q
theorem op_sub : OpR X (binaryOp .Sub) (rI0 fun i j => .int (i - j)) := opI0 fun _ _ _ _ _ _ _ q => sub_int q
/-- % by a positive divisor of any size -/
theorem op_mod : OpR X (binaryOp .Mod) (rI (fun _ j => 0 < j) fun i j => .int (i % j)) := opI fun i j _ _ _ _ _ hc q => by
  have h1 : (0 : Int) < j := hc
  exact mod_int' (by omega) (by rw [Int.fmod_eq_emod_of_nonneg i (by omega)]; exact q)
theorem op_pow : OpR X (binaryOp .Pow) (rI CPow fun i j => .int (i ^ j.toNat)) := opI fun _ _ _ _ _ _ _ hc q => pow_int_small hc.1 hc.2.1 hc.2.2 q
theorem unI {f : Value → Sem Value} {g : Int → Int}
    (rule : ∀ (i : Int) (t : Tok) (s : Shared) (Q : Value → Shared → Prop) (E : Value → Shared → Prop), Q (.int (g i) s.toks) { s with toks := s.toks + 1 } → wpAny (model X.prog X.w) X.A (f (.int i t)) Q E s) :
    UnR X f (rU fun i => .int (g i)) := by
  intro pins s σ H x v Q I rx h
  obtain ⟨i, rfl, q⟩ := h
  obtain ⟨t, rfl⟩ := rx
  exact rule i t s _ _ ⟨.int (g i), H, I.tok _, ⟨_, rfl⟩, q⟩
theorem un_neg : UnR X (unaryOp .USub) (rU fun i => .int (-i)) := unI fun _ _ _ _ _ q => neg_int q
/-! ### bools among ints: n += (a < b) -/
end

/-! ### comparisons -/
/-- the scalars that == tells apart as data does -/
def scal : V → V → Bool
  | .non, .non => true | .non, .int _ => true | .int _, .non => true | .non, .bl _ => true | .bl _, .non => true | .non, .str _ => true | .str _, .non => true
  | .int _, .int _ => true | .bl _, .bl _ => true | .str _, .str _ => true | .byt _, .byt _ => true
  | .int _, .str _ => true | .str _, .int _ => true | .bl _, .str _ => true | .str _, .bl _ => true
  | _, _ => false
def rEq : R2 := fun x y H Q => scal x y = true ∧ Q (.bl (decide (x = y))) H
def rNe : R2 := fun x y H Q => scal x y = true ∧ Q (.bl (!decide (x = y))) H

theorem dec_int {i j : Int} : decide (V.int i = V.int j) = (i == j) := by
  rw [Bool.eq_iff_iff]
  simp
theorem dec_bl {i j : Bool} : decide (V.bl i = V.bl j) = (i == j) := by
  rw [Bool.eq_iff_iff]
  simp
theorem dec_str {i j : Str} : decide (V.str i = V.str j) = (i == j) := by
  rw [Bool.eq_iff_iff]
  simp
theorem dec_byt {i j : Array UInt8} : decide (V.byt i = V.byt j) = (i.toList == j.toList) := by
  rw [Bool.eq_iff_iff]
  cases i
  cases j
  simp

section
variable {X : Cx} {a b c : Expr} {ta tb tc : TE} {pos : Pos}
theorem fin_bl {pins : List (Addr × Obj)} {σ : St} {H : Hp} {s : Shared} {Q : VK} {k k' : Bool} (I : Inv X pins σ H s) (q : Q (.bl k) H) (e : k = k') : EP X pins σ Q (.bool k') s := by
  subst e
  exact ⟨.bl k, H, I, rfl, q⟩
theorem op_eq : OpR X (compareOp .Eq) rEq := by
  intro pins s σ H x y v u Q I rx ry h
  obtain ⟨hs, q⟩ := h
  cases x with
  | non =>
    cases rx
    cases y with
    | non => cases ry; exact PySem.EqNone.eq_none_none (fin_bl I q (by simp))
    | bl j => cases ry; exact PySem.EqNone.eq_none_bool (fin_bl I q (by simp))
    | int j => obtain ⟨t', rfl⟩ := ry; exact PySem.EqNone.eq_none_int (fin_bl I q (by simp))
    | str j => obtain ⟨t', rfl⟩ := ry; exact PySem.EqNone.eq_none_str (fin_bl I q (by simp))
    | _ => exact absurd (show false = true from hs) Bool.false_ne_true
  | bl i =>
    cases rx
    cases y with
    | non => cases ry; exact PySem.EqNone.eq_bool_none (fin_bl I q (by simp))
    | bl j => cases ry; exact eq_bool (fin_bl I q dec_bl)
    | str j => obtain ⟨t', rfl⟩ := ry; exact PySem.EqMixed.eq_bool_str (fin_bl I q (by simp))
    | _ => exact absurd (show false = true from hs) Bool.false_ne_true
  | int i =>
    obtain ⟨t, rfl⟩ := rx
    cases y with
    | non => cases ry; exact PySem.EqNone.eq_int_none (fin_bl I q (by simp))
    | int j => obtain ⟨t', rfl⟩ := ry; exact eq_int (fin_bl I q dec_int)
    | str j => obtain ⟨t', rfl⟩ := ry; exact PySem.EqMixed.eq_int_str (fin_bl I q (by simp))
    | _ => exact absurd (show false = true from hs) Bool.false_ne_true
  | str i =>
    obtain ⟨t, rfl⟩ := rx
    cases y with
    | non => cases ry; exact PySem.EqNone.eq_str_none (fin_bl I q (by simp))
    | bl j => cases ry; exact PySem.EqMixed.eq_str_bool (fin_bl I q (by simp))
    | int j => obtain ⟨t', rfl⟩ := ry; exact PySem.EqMixed.eq_str_int (fin_bl I q (by simp))
    | str j => obtain ⟨t', rfl⟩ := ry; exact eq_str (fin_bl I q dec_str)
    | _ => exact absurd (show false = true from hs) Bool.false_ne_true
  | byt i =>
    obtain ⟨t, rfl⟩ := rx
    cases y with
    | byt j => obtain ⟨t', rfl⟩ := ry; exact PySem.W.eq_bytes (fin_bl I q dec_byt)
    | _ => exact absurd (show false = true from hs) Bool.false_ne_true
  | _ => cases y <;> exact absurd (show false = true from hs) Bool.false_ne_true
theorem op_ne : OpR X (compareOp .NotEq) rNe := by
  intro pins s σ H x y v u Q I rx ry h
  obtain ⟨hs, q⟩ := h
  cases x with
  | non =>
    cases rx
    cases y with
    | non => cases ry; exact PySem.EqNone.ne_none_none (fin_bl I q (by simp))
    | bl j => cases ry; exact PySem.EqNone.ne_none_bool (fin_bl I q (by simp))
    | int j => obtain ⟨t', rfl⟩ := ry; exact PySem.EqNone.ne_none_int (fin_bl I q (by simp))
    | str j => obtain ⟨t', rfl⟩ := ry; exact PySem.EqNone.ne_none_str (fin_bl I q (by simp))
    | _ => exact absurd (show false = true from hs) Bool.false_ne_true
  | bl i =>
    cases rx
    cases y with
    | non => cases ry; exact PySem.EqNone.ne_bool_none (fin_bl I q (by simp))
    | bl j => cases ry; exact ne_bool (fin_bl I q (congrArg not dec_bl))
    | str j => obtain ⟨t', rfl⟩ := ry; exact PySem.EqMixed.ne_bool_str (fin_bl I q (by simp))
    | _ => exact absurd (show false = true from hs) Bool.false_ne_true
  | int i =>
    obtain ⟨t, rfl⟩ := rx
    cases y with
    | non => cases ry; exact PySem.EqNone.ne_int_none (fin_bl I q (by simp))
    | int j => obtain ⟨t', rfl⟩ := ry; exact ne_int (fin_bl I q (congrArg not dec_int))
    | str j => obtain ⟨t', rfl⟩ := ry; exact PySem.EqMixed.ne_int_str (fin_bl I q (by simp))
    | _ => exact absurd (show false = true from hs) Bool.false_ne_true
  | str i =>
    obtain ⟨t, rfl⟩ := rx
    cases y with
    | non => cases ry; exact PySem.EqNone.ne_str_none (fin_bl I q (by simp))
    | bl j => cases ry; exact PySem.EqMixed.ne_str_bool (fin_bl I q (by simp))
    | int j => obtain ⟨t', rfl⟩ := ry; exact PySem.EqMixed.ne_str_int (fin_bl I q (by simp))
    | str j => obtain ⟨t', rfl⟩ := ry; exact ne_str (fin_bl I q (congrArg not dec_str))
    | _ => exact absurd (show false = true from hs) Bool.false_ne_true
  | byt i =>
    obtain ⟨t, rfl⟩ := rx
    cases y with
    | byt j => obtain ⟨t', rfl⟩ := ry; exact PySem.W.ne_bytes (fin_bl I q (congrArg not dec_byt))
    | _ => exact absurd (show false = true from hs) Bool.false_ne_true
  | _ => cases y <;> exact absurd (show false = true from hs) Bool.false_ne_true

theorem op_lt : OpR X (compareOp .Lt) (rI0 fun i j => .bl (decide (i < j))) := opB0 fun _ _ _ _ _ _ _ q => lt_int q
theorem op_le : OpR X (compareOp .LtE) (rI0 fun i j => .bl (decide (i ≤ j))) := opB0 fun _ _ _ _ _ _ _ q => le_int q
theorem op_gt : OpR X (compareOp .Gt) (rI0 fun i j => .bl (decide (j < i))) := opB0 fun _ _ _ _ _ _ _ q => gt_int q
theorem op_ge : OpR X (compareOp .GtE) (rI0 fun i j => .bl (decide (j ≤ i))) := opB0 fun _ _ _ _ _ _ _ q => ge_int q
/-- is, is not of two objects that are tracked lists or instances -/
def isObj : HO → Bool
  | .lst _ => true
  | .ins _ _ _ => true
  | _ => false
/-- two rules for one operation: by cases -/
theorem OpR.or {f : Value → Value → Sem Value} {r r' : R2} (h : OpR X f r) (h' : OpR X f r') : OpR X f (fun x y H Q => r x y H Q ∨ r' x y H Q) := by
  intro pins s σ H x y v u Q I rx ry q
  rcases q with q | q
  · exact h pins s σ H x y v u Q I rx ry q
  · exact h' pins s σ H x y v u Q I rx ry q

theorem nomark (b : Expr) {op : CmpOp} (h : op ≠ .In := by decide) (h2 : op ≠ .NotIn := by decide) : behindInMarks op b = false := by
  have e1 : (op == CmpOp.In) = false := by cases op <;> first | rfl | exact absurd rfl h
  have e2 : (op == CmpOp.NotIn) = false := by cases op <;> first | rfl | exact absurd rfl h2
  cases b <;> simp [behindInMarks, e1, e2]
/-- a comparison as a value; hm: nomark b, or (for in, not in) by with_unfolding_all rfl -/
theorem pe_cmpR {op : CmpOp} {r : R2} (ho : OpR X (compareOp op) r) (ha : PE X a ta) (hb : PE X b tb) (hm : behindInMarks op b = false) : PE X (.Compare a [op] [b] pos) (tOp r ta tb) := by
  intro pins s σ H Q I h
  exact wpAny_Compare1 (binT ha hb I h fun v u s2 x y H2 I2 rx ry q => ho pins s2 σ H2 x y v u Q I2 rx ry q) hm
/-- a reading of a value as a test -/
def tTest (t : TE) : TT := fun σ H Q => t σ H fun x H' => ∃ k, x = .bl k ∧ Q k H'
theorem pt_cmpR {op : CmpOp} {r : R2} (ho : OpR X (compareOp op) r) (ha : PE X a ta) (hb : PE X b tb) (hm : behindInMarks op b = false) : PT X (.Compare a [op] [b] pos) (tTest (tOp r ta tb)) := by
  intro pins s σ H Q I h
  refine wpAny_isTrue_Compare1 (thn (ha pins s σ H _ I h) fun v s1 ⟨x, H1, I1, r1, q1⟩ => thn (hb pins s1 σ H1 _ I1 q1) fun u s2 ⟨y, H2, I2, r2, q2⟩ =>
    thn (ho pins s2 σ H2 x y v u _ I2 r1 r2 q2) fun c s3 ⟨z, H3, I3, r3, k, e, q3⟩ => ?_) hm
  subst e
  cases r3
  exact wpAny_truthy_bool ⟨H3, I3, q3⟩
/-- a op1 b op2 c -/
def tChain (r r' : R2) (ta tb tc : TE) : TE := fun σ H Q => ta σ H fun x H1 => tb σ H1 fun y H2 => r x y H2 fun z H3 => ∃ k, z = .bl k ∧
  (if k = true then tc σ H3 fun w' H4 => r' y w' H4 Q else Q (.bl false) H3)
/-! ### truth -/
/-- a value's truth by the abstract heap -/
def TruV (K : PySem.W.Frag) (x : V) (H : Hp) (k : Bool) : Prop :=
  match x with
  | .non => k = false
  | .bl b => k = b
  | .int i => k = (i != 0)
  | .str y => y.length ≤ sizeLine ∧ k = ((y.length : Int) != 0)
  | .byt y => y.size ≤ sizeLine ∧ k = ((y.size : Int) != 0)
  | .ref p => (∃ xs, SqL K H p xs ∧ k = !xs.isEmpty) ∨ (∃ xs, SqT K H p xs ∧ k = !xs.isEmpty) ∨ ∃ kvs, H p = some (.dK kvs) ∧ k = !kvs.isEmpty
  | _ => False
theorem line63 : (sizeLine : Nat) < 2 ^ 63 := by rw [sizeLine_eq]; decide
/-! ### strs and bytes -/
def PlainIxT (b : Expr) : Prop := ∀ o i, subscripted b false o i = operate [o, i] (getItem o i)
/-! ### scalar builtins, by CallR -/
theorem vals1 {x : V} {us : List Value} (r : Vals [x] us) : ∃ u, us = [u] ∧ RelV x u := by
  cases r with
  | cons r1 r2 => cases r2; exact ⟨_, rfl, r1⟩
theorem vals2 {x y : V} {us : List Value} (r : Vals [x, y] us) : ∃ u w', us = [u, w'] ∧ RelV x u ∧ RelV y w' := by
  cases r with
  | cons r1 r2 =>
    cases r2 with
    | cons r3 r4 => cases r4; exact ⟨_, _, rfl, r1, r3⟩
theorem call_abs : CallR X (.builtin "abs") (fun xs H Q => ∃ i, xs = [.int i] ∧ Q (.int (if i < 0 then -i else i)) H) := by
  intro pins s σ H xs us Q I r h
  obtain ⟨i, rfl, q⟩ := h
  obtain ⟨u, rfl, t, rfl⟩ := vals1 r
  exact call_abs_int fun u tk => ⟨.int (if i < 0 then -i else i), H, I.tok _, ⟨_, rfl⟩, q⟩
theorem call_max2 (hc : X.calm = true) : CallR X (.builtin "max") (fun xs H Q => ∃ i j, xs = [.int i, .int j] ∧ Q (.int (if j > i then j else i)) H) := by
  intro pins s σ H xs us Q I r h
  obtain ⟨i, j, rfl, q⟩ := h
  obtain ⟨u, w', rfl, ⟨t, rfl⟩, ⟨t', rfl⟩⟩ := vals2 r
  refine max_two_ints (I.ok.hd hc) fun h' tk k => ⟨_, H, I.kept k, ?_, q⟩
  by_cases hj : j > i
  · rw [if_pos hj, if_pos hj]; exact ⟨_, rfl⟩
  · rw [if_neg hj, if_neg hj]; exact ⟨_, rfl⟩
theorem call_min2 (hc : X.calm = true) : CallR X (.builtin "min") (fun xs H Q => ∃ i j, xs = [.int i, .int j] ∧ Q (.int (if j < i then j else i)) H) := by
  intro pins s σ H xs us Q I r h
  obtain ⟨i, j, rfl, q⟩ := h
  obtain ⟨u, w', rfl, ⟨t, rfl⟩, ⟨t', rfl⟩⟩ := vals2 r
  refine min_two_ints (I.ok.hd hc) fun h' tk k => ⟨_, H, I.kept k, ?_, q⟩
  by_cases hj : j < i
  · rw [if_pos hj, if_pos hj]; exact ⟨_, rfl⟩
  · rw [if_neg hj, if_neg hj]; exact ⟨_, rfl⟩
theorem call_int1 : CallR X (.type "int") (fun xs H Q => (∃ i, xs = [.int i] ∧ Q (.int i) H) ∨ ∃ k, xs = [.bl k] ∧ Q (.int (if k then 1 else 0)) H) := by
  intro pins s σ H xs us Q I r h
  rcases h with ⟨i, rfl, q⟩ | ⟨k, rfl, q⟩
  · obtain ⟨u, rfl, t, rfl⟩ := vals1 r
    exact call_int_int ⟨.int i, H, I, ⟨_, rfl⟩, q⟩
  · obtain ⟨u, rfl, r1⟩ := vals1 r
    cases r1
    exact call_int_bool ⟨.int (if k then 1 else 0), H, I.tok _, ⟨_, rfl⟩, q⟩
/-- len of a str, a bytes, a list, a tuple -/
def LenV (K : PySem.W.Frag) (x : V) (H : Hp) (n : Nat) : Prop :=
  match x with
  | .str y => y.length ≤ sizeLine ∧ n = y.length
  | .byt y => y.size ≤ sizeLine ∧ n = y.size
  | .ref p => (∃ xs, SqL K H p xs ∧ n = xs.length) ∨ ∃ xs, SqT K H p xs ∧ n = xs.length
  | _ => False
end
end L2

namespace L2
open PySem PySem.Spec PyProof.Rows

/-! ### an instance, its attributes a map -/
structure ObjM (h : Heap) (x dx C : Addr) (mA : Str → Option Value) : Prop where
  obj : h.get? x = some (PySem.W.instObj C dx)
  ns : h.Ns1 dx mA
  ne : dx ≠ x

section
variable {prog : Program} {w : World} {A : Around} {E : Value → Shared → Prop} {s : Shared} {K : PySem.W.Frag} {x dx C f : Addr} {mA : Str → Option Value} {name : Str} {v : Value}

end

/-! ### the attributes as a list of pairs -/
def putF (f : Str) (v : V) : List (Str × V) → List (Str × V)
  | [] => [(f, v)]
  | (g, x) :: r => if g = f then (g, v) :: r else (g, x) :: putF f v r
section
variable {P : Program} {w : World} {H H' : Hp} {h h' : Heap} {a C dx : Addr} {fs fs' : List (Str × V)}
end

/-! ### what of the text a class must have -/
structure Cls (K : PySem.W.Frag) (C : Addr) : Prop where
  pg : PySem.W.plainGet K C Str.empty = true
  hd : PySem.W.hasDictIn K C = true
  po : PySem.W.plainOver K C = true
  sa : PySem.W.findIn K (.ref C) "__setattr__" = some (some (.builtin "object.__setattr__"))
theorem Cls.get {K : PySem.W.Frag} {C : Addr} (c : Cls K C) (f : Str) : PySem.W.plainGet K C f = true := c.pg
/-- no class of it has the name -/
def NoAttr (K : PySem.W.Frag) (C : Addr) (f : Str) : Prop := PySem.W.findIn K (.ref C) f = some none
/-- a constant of the class -/
structure Con (K : PySem.W.Frag) (C : Addr) (f : Str) (v : V) (u : Value) : Prop where
  at_ : PySem.W.findIn K (.ref C) f = some (some u)
  rel : RelV v u
  get : PySem.W.specialIn K u "__get__" = some none
  cp : PySem.W.copiedNames.contains f = false
/-- a method: a plain def of the class or of one above it -/
structure Meth (K : PySem.W.Frag) (C : Addr) (m : Str) (f : Addr) : Prop where
  at_ : PySem.W.findIn K (.ref C) m = some (some (.ref f))
  fn : PySem.W.isFn K (.ref f) = true
  kp : PySem.W.keepIn K (.ref f) = true

section
variable {X : Cx} {pins : List (Addr × Obj)} {σ : St} {H : Hp} {s : Shared} {a C dx : Addr} {fs : List (Str × V)} {f : Str} {v : V} {A : Around} {E : Value → Shared → Prop}

/-- a new instance, tracked, without attributes -/
theorem Inv.made (I : Inv X pins σ H s) : Inv X pins σ (upd (upd H s.heap.objs.size (.own (s.heap.objs.size + 1))) (s.heap.objs.size + 1) (.ins C s.heap.objs.size []))
    { s with heap := (s.heap.push PySem.W.emptyDict).push (PySem.W.instObj C s.heap.objs.size) } := by
  have e1 : (s.heap.push PySem.W.emptyDict).get? s.heap.objs.size = some PySem.W.emptyDict := Heap.get?_push_size s.heap rfl
  have e2 : ((s.heap.push PySem.W.emptyDict).push (PySem.W.instObj C s.heap.objs.size)).get? (s.heap.objs.size + 1) = some (PySem.W.instObj C s.heap.objs.size) := by
    have := Heap.get?_push_size (s.heap.push PySem.W.emptyDict) (o := PySem.W.instObj C s.heap.objs.size) rfl
    rwa [Heap.size_push] at this
  have e3 : (s.heap.push PySem.W.emptyDict).Ns s.heap.objs.size (fun _ => none) := ⟨PySem.W.emptyDict, #[], _, e1, rfl, (fun e he => absurd he (by simp)), fun _ => rfl⟩
  have I1 := I.laid (a := s.heap.objs.size) (o := .own (s.heap.objs.size + 1)) (h' := s.heap.push PySem.W.emptyDict) (t' := s.toks) (fun b u q => Heap.get?_push_of_some _ q) (Nat.le_refl _) ⟨_, e1⟩
  refine I1.laid (a := s.heap.objs.size + 1) (o := .ins C s.heap.objs.size []) (t' := s.toks) (fun b u q => Heap.get?_push_of_some _ q) (Nat.le_of_eq (Heap.size_push _ _)) ?_
  have ne : s.heap.objs.size ≠ s.heap.objs.size + 1 := Nat.ne_of_lt (Nat.lt_succ_self _)
  refine ⟨by rw [upd_ne ne, upd_same], Nat.zero_le _, ne, e2, fun _ => none, (Heap.Ns1.of_empty e3).at fun o q => Heap.get?_push_of_some _ q, fun _ => True.intro, fun y hy => absurd rfl hy⟩

end

/-! ### readings and rules -/
/-- e.f, an attribute of the instance -/
def tFld (K : PySem.W.Frag) (ta : TE) (f : Str) : TE := fun σ H Q => ta σ H fun x H1 => ∃ a C dx fs v, x = .ref a ∧ H1 a = some (.ins C dx fs) ∧ Cls K C ∧ NoAttr K C f ∧ fs.lookup f = some v ∧ Q v H1
/-- e.f, a constant of the class -/
def tCon (K : PySem.W.Frag) (ta : TE) (f : Str) : TE := fun σ H Q => ta σ H fun x H1 => ∃ a C dx fs v u, x = .ref a ∧ H1 a = some (.ins C dx fs) ∧ Cls K C ∧ Con K C f v u ∧ fs.lookup f = none ∧ Q v H1
/-- e.f = value -/
def sFld (K : PySem.W.Frag) (ta tv : TE) (f : Str) : TS := fun D σ H => tv σ H fun y H1 => ta σ H1 fun x H2 => ∃ a C dx fs, x = .ref a ∧ H2 a = some (.ins C dx fs) ∧ Cls K C ∧ NoAttr K C f ∧ fs.length < 1000 ∧
  D.nx σ (upd H2 a (.ins C dx (putF f y fs)))
/-- an augmented operator on two values -/
def InOp (X : Cx) (op : Operator) (rd : V → V → Hp → VK → Prop) : Prop :=
  ∀ (pins : List (Addr × Obj)) (s : Shared) (σ : St) (H : Hp) (x y : V) (u v : Value) (Q : VK), Inv X pins σ H s → RelV x u → RelV y v → rd x y H Q → wpAny (model X.prog X.w) X.A (inplaceOp op u v) (EP X pins σ Q) X.xe s
/-- e.f op= value -/
def sFldAug (K : PySem.W.Frag) (ta tv : TE) (rd : V → V → Hp → VK → Prop) (f : Str) : TS := fun D σ H => ta σ H fun x H1 => ∃ a C dx fs v, x = .ref a ∧ H1 a = some (.ins C dx fs) ∧ Cls K C ∧ NoAttr K C f ∧ fs.lookup f = some v ∧
  tv σ H1 fun y H2 => rd v y H2 fun z H3 => ∃ dx' fs', H3 a = some (.ins C dx' fs') ∧ fs'.length < 1000 ∧ D.nx σ (upd H3 a (.ins C dx' (putF f z fs')))

section
variable {X : Cx} {o e value : Expr} {f : Str} {pos pos' tpos : Pos} {ta tv : TE}
def rAdd : V → V → Hp → VK → Prop := fun x y H Q => ∃ i j, x = .int i ∧ y = .int j ∧ Q (.int (i + j)) H
def rSub : V → V → Hp → VK → Prop := fun x y H Q => ∃ i j, x = .int i ∧ y = .int j ∧ Q (.int (i - j)) H
end

/-! ### isinstance -/
section
variable {X : Cx} {pins : List (Addr × Obj)} {σ : St} {H : Hp} {s : Shared} {A : Around} {E : Value → Shared → Prop} {Q : Value → Shared → Prop} {c : Value} {b : Bool}
/-- the type of a value, as the fragment's deciders take it; for an instance its class -/
inductive TyOf (K : PySem.W.Frag) (H : Hp) : V → Value → Prop where
  | non : TyOf K H .non (.type "NoneType")
  | bl (x : Bool) : TyOf K H (.bl x) (.type "bool")
  | int (i : Int) : TyOf K H (.int i) (.type "int")
  | str (x : Str) : TyOf K H (.str x) (.type "str")
  | flt (x : UInt64) : TyOf K H (.flt x) (.type "float")
  | lst {a : Addr} {xs : List V} (e : H a = some (.lst xs)) : TyOf K H (.ref a) (.type "list")
  | frz {a : Addr} {o : Obj} {xs : List V} (e : H a = some (.frz o (.lst xs))) : TyOf K H (.ref a) (.type "list")
  | tup {a : Addr} {xs : List V} (e : H a = some (.tup xs)) : TyOf K H (.ref a) (.type "tuple")
  | dK {a : Addr} {kvs : List (Key × V)} (e : H a = some (.dK kvs)) : TyOf K H (.ref a) (.type "dict")
  | dT {a : Addr} {kvs : List (List Key × V)} (e : H a = some (.dT kvs)) : TyOf K H (.ref a) (.type "dict")
  | ins {a C dx : Addr} {fs : List (Str × V)} (e : H a = some (.ins C dx fs)) (cl : Cls K C) (ha : PySem.W.findIn K (.ref C) "__class__" = some (some (.builtin "object.__class__")))
      (hn : PySem.W.specialIn K (.builtin "object.__class__") "__get__" = some (some (.builtin "getset_descriptor.__get__"))) (htk : PySem.W.takesIn K (.builtin "object.__class__") = some true)
      (hm : PySem.W.mroIn K C (.type "object") = some true) : TyOf K H (.ref a) (.ref C)
end
end L2

namespace L2
open PySem PySem.Spec PyProof.Rows

/-! ### room -/
structure Room (k : Nat) (A : Around) : Prop where
  hd : A.handled = none
  dp : A.depth + 3 * k + 5 < recursionLimit
  un : A.units + 16 * k + 200 < cLine
theorem Room.mono {j k : Nat} {A : Around} (r : Room k A) (h : j ≤ k) : Room j A := ⟨r.hd, by have := r.dp; omega, by have := r.un; omega⟩
theorem Room.deeper {k : Nat} {A : Around} (r : Room (k + 1) A) (env : Env) : Room k (A.deeper env) :=
  ⟨r.hd, by have := r.dp; show A.depth + 1 + 3 * k + 5 < _; omega, by have := r.un; show A.units + 3 + 16 * k + 200 < _; omega⟩
theorem Room.in1 {k : Nat} {A : Around} (r : Room (k + 1) A) : Room k A.in1 :=
  ⟨r.hd, by have := r.dp; show A.depth + 3 * k + 5 < _; omega, by have := r.un; show A.units + 1 + 16 * k + 200 < _; omega⟩
theorem Room.depth {k : Nat} {A : Around} (r : Room k A) : A.depth < recursionLimit := by have := r.dp; omega
theorem Room.units {k : Nat} {A : Around} (r : Room k A) : A.units + 64 < cLine := by have := r.un; omega
/-! ### argument lists and displays -/
def tNil : TA := fun _ H Q => Q [] H
def tCons (ta : TE) (tr : TA) : TA := fun σ H Q => ta σ H fun x H1 => tr σ H1 fun xs H2 => Q (x :: xs) H2
section
variable {X : Cx} {e : Expr} {es : List Expr} {te : TE} {t : TA} {pos : Pos}
theorem pa_nil : PA X [] tNil := fun _ _ _ _ H Q I h => Calls.spliced_nil ⟨[], H, I, .nil, h⟩
theorem pa_cons (ha : PE X e te) (hr : PA X es t) (hs : starEach (e :: es) X.env = (false, eval e X.env) :: starEach es X.env := by rfl) : PA X (e :: es) (tCons te t) := by
  intro pos pins s σ H Q I h
  rw [hs]
  show wpAny _ _ (spliced ((false, eval e X.env) :: backTo pos (starEach es X.env))) _ _ s
  refine Calls.spliced_cons (thn (ha pins s σ H _ I h) fun u s1 ⟨x, H1, I1, r1, q1⟩ => ?_)
  exact thn (hr pos pins s1 σ H1 _ I1 q1) fun us s2 ⟨xs, H2, I2, r2, q2⟩ => ⟨x :: xs, H2, I2, .cons r1 r2, q2⟩

/-- a tuple, a list of written items -/
def tTup (t : TA) : TE := fun σ H Q => t σ H fun xs H1 => xs.length ≤ sizeLine ∧ ∀ p, H1 p = none → Q (.ref p) (upd H1 p (.tup xs))
def tLst (t : TA) : TE := fun σ H Q => t σ H fun xs H1 => xs.length ≤ sizeLine ∧ ∀ p, H1 p = none → Q (.ref p) (upd H1 p (.lst xs))
theorem pe_tup {x1} (h : PA X es t) : PE X (.Tuple es x1 pos) (tTup t) := by
  intro pins s σ H Q I hq
  refine wpAny_Tuple_spliced (thn (h pos pins s σ H _ I hq) fun us s1 ⟨xs, H1, I1, r, z, q⟩ => ⟨by rw [← r.length]; exact z, ?_⟩)
  have hf : H1 s1.heap.objs.size = none := I1.hok.fresh (Nat.le_refl _)
  refine ⟨.ref s1.heap.objs.size, upd H1 s1.heap.objs.size (.tup xs), I1.laid (t' := s1.toks) (fun b u e => Heap.get?_push_of_some _ e) (Nat.le_refl _) ?_, rfl, q _ hf⟩
  exact ⟨z, us, r, ⟨_, Heap.get?_push_size _ rfl, rfl, _, rfl⟩⟩
theorem pe_lst (h : PA X es t) : PE X (.List es pos) (tLst t) := by
  intro pins s σ H Q I hq
  refine wpAny_List_spliced (thn (h pos pins s σ H _ I hq) fun us s1 ⟨xs, H1, I1, r, z, q⟩ => ⟨by rw [← r.length]; exact z, ?_⟩)
  have hf : H1 s1.heap.objs.size = none := I1.hok.fresh (Nat.le_refl _)
  refine ⟨.ref s1.heap.objs.size, upd H1 s1.heap.objs.size (.lst xs), I1.laid (t' := s1.toks) (fun b u e => Heap.get?_push_of_some _ e) (Nat.le_refl _) ?_, rfl, q _ hf⟩
  exact ⟨z, us, 0, r, Heap.get?_push_size _ rfl⟩
end

/-! ### what a def promises -/
/-- a def's promise: the bound arguments in the parameters' order, the heap, the wanted end, the wanted exception -/
abbrev Sp := List V → Hp → VK → XK → Prop
/-- how an exception lies behind a call (file 08 gives it): the callers' frames, abstract heap and state ahead of the call, the wish, the exception, the state -/
abbrev CXT := List Env → Hp → Shared → XK → Value → Shared → Prop

/-- the state at a call -/
structure Env0 (P : Program) (w : World) (K : PySem.W.Frag) (mg : Str → Option Value) (base : Heap) (A : Around) (outer : List Env) (s : Shared) (H : Hp) : Prop where
  frames : A.frames = some outer
  mod : Mod K mg base
  bs : ∀ b o, base.get? b = some o → s.heap.get? b = some o ∧ H b = none
  bsz : base.objs.size ≤ s.heap.objs.size
  funs : s.heap.FunFrames base outer
  frf : ∀ b ∈ frs outer, H b = none
  hok : HOk P w H s.heap
  bare : AllBare s.gens
/-- a call's end -/
def CE (outer : List Env) (P : Program) (w : World) (H : Hp) (s : Shared) (Q : VK) (u : Value) (s' : Shared) : Prop :=
  ∃ v H', s'.os = s.os ∧ AllBare s'.gens ∧ Un (frs outer) [] H H' s.heap s'.heap ∧ HOk P w H' s'.heap ∧ RelV v u ∧ Q v H'
def CR (CX : CXT) (outer : List Env) (P : Program) (w : World) (H : Hp) (s : Shared) (Q : VK) (E : XK) (r : Result) (s' : Shared) : Prop :=
  match r with
  | .ok (.ret u) => CE outer P w H s Q u s'
  | .ok _ => False
  | .error e => CX outer H s E e s'
structure FnOk (P : Program) (w : World) (K : PySem.W.Frag) (mg : Str → Option Value) (base : Heap) (CX : CXT) (k : Nat) (f : Addr) (fd : FuncData) (ps : List Str) (sp : Sp) : Prop where
  len : ∀ vs H Q E, sp vs H Q E → vs.length = ps.length
  run : ∀ (A : Around) (outer : List Env) (s : Shared) (H : Hp) (args : Args) (us : List Value) (vs : List V) (Q : VK) (E : XK), Room k A → Env0 P w K mg base A outer s H → BindsTo s fd args (ps.zip us) → Vals vs us → sp vs H Q E →
    codeAny (model P w) A (.call (.ref f) args) (CR CX outer P w H s Q E) s
theorem FnOk.mono {P : Program} {w : World} {K : PySem.W.Frag} {mg : Str → Option Value} {base : Heap} {CX : CXT} {j k : Nat} {f : Addr} {fd : FuncData} {ps : List Str} {sp : Sp} (F : FnOk P w K mg base CX j f fd ps sp) (h : j ≤ k) :
    FnOk P w K mg base CX k f fd ps sp := ⟨F.len, fun A outer s H args us vs Q E hr => F.run A outer s H args us vs Q E (hr.mono h)⟩
theorem Env0.in1 {P : Program} {w : World} {K : PySem.W.Frag} {mg : Str → Option Value} {base : Heap} {A : Around} {outer : List Env} {s : Shared} {H : Hp} (e : Env0 P w K mg base A outer s H) :
    Env0 P w K mg base A.in1 outer s H := ⟨e.frames, e.mod, e.bs, e.bsz, e.funs, e.frf, e.hok, e.bare⟩

section
variable {X : Cx} {pins : List (Addr × Obj)} {σ : St} {H : Hp} {s s' : Shared}
/-- from a body: what a callee wants -/
theorem Inv.env0 (I : Inv X pins σ H s) : Env0 X.prog X.w X.K X.mg X.base X.A X.stack s H :=
  ⟨I.ok.frames, I.ok.mod, I.bs, Nat.le_trans I.ok.bsz I.sz, I.stack, I.stkFree, I.hok, I.bare⟩
/-- behind a call -/
theorem Inv.after {Q : VK} {u : Value} (I : Inv X pins σ H s) (h : CE X.stack X.prog X.w H s Q u s') : EP X pins σ Q u s' := by
  obtain ⟨v, H', os, bare, un, hok, r, q⟩ := h
  obtain ⟨hh, g, d, t, os'⟩ := s'
  obtain rfl : os' = s.os := os
  exact ⟨v, H', I.call (h' := hh) (g' := g) (d' := d) (t' := t) (ch := []) un hok bare (fun b z => absurd z (by simp)), r, q⟩
end

/-! ### calls -/
/-- f(..): the written arguments, then the defaults dvs; E: what is wanted of an exception -/
def tCall (sp : Sp) (dvs : List V) (E : XK) (t : TA) : TE := fun σ H Q => t σ H fun vs H1 => sp (vs ++ dvs) H1 Q E
/-- o.m(..) of an instance of the class at C -/
def tMeth (C : Addr) (m : Str) (sp : Sp) (dvs : List V) (E : XK) (ta : TE) (t : TA) : TE := fun σ H Q => ta σ H fun x H1 => ∃ a dx fs, x = .ref a ∧ H1 a = some (.ins C dx fs) ∧ fs.lookup m = none ∧
  t σ H1 fun vs H2 => sp (x :: (vs ++ dvs)) H2 Q E
/-- C(..): a new instance and its dict, then __init__ -/
def tMake (C : Addr) (sp : Sp) (dvs : List V) (E : XK) (t : TA) : TE := fun σ H Q => t σ H fun vs H1 => ∀ x dx, H1 x = none → H1 dx = none → dx ≠ x →
  sp (.ref x :: (vs ++ dvs)) (upd (upd H1 dx (.own x)) x (.ins C dx [])) (fun v H2 => v = .non ∧ Q (.ref x) H2) E

/-- how the parameters are bound: us the positional arguments, kw the keywords' values by name, ds the defaults that fill up -/
def Binds (K : PySem.W.Frag) (fd : FuncData) (ps : List Str) (ds : List Value) : Prop :=
  ∀ (s : Shared) (us : List Value), K.In s.heap → (us ++ ds).length = ps.length → BindsTo s fd ⟨us, []⟩ (ps.zip (us ++ ds))
/-- every parameter is given -/
theorem Binds.all {K : PySem.W.Frag} {fd : FuncData} {ps : List Str} (h : ∀ us : List Value, us.length = ps.length → bindArgs fd ⟨us, []⟩ = pure (ps.zip us)) : Binds K fd ps [] := fun s us _ hl => by
  rw [List.append_nil] at hl ⊢
  exact .of_eq (h us hl)

/-- an exception of a callee reaches what this body wants of exceptions -/
def Passes (CX : CXT) (X : Cx) (E : XK) : Prop := ∀ (pins : List (Addr × Obj)) (σ : St) (H : Hp) (s : Shared) (e : Value) (s' : Shared), Inv X pins σ H s → CX X.stack H s E e s' → X.xe e s'

section
variable {X : Cx} {CX : CXT} {k : Nat} {f C : Addr} {fd : FuncData} {ps : List Str} {sp : Sp} {dvs : List V} {ds : List Value} {E : XK} {x m : Str} {p pos apos : Pos} {e o : Expr} {es : List Expr} {ta : TE} {t : TA}

/-- the callee runs -/
theorem run_fn {pins : List (Addr × Obj)} {σ : St} {H : Hp} {s : Shared} {Q : VK} {us : List Value} {vs : List V} (F : FnOk X.prog X.w X.K X.mg X.base CX k f fd ps sp) (hr : Room k X.A) (hb : Binds X.K fd ps ds) (hd : Vals dvs ds) (hx : Passes CX X E)
    (I : Inv X pins σ H s) (r : Vals vs us) (h : sp (vs ++ dvs) H Q E) : wpAny (model X.prog X.w) X.A (call (.ref f) us) (EP X pins σ Q) X.xe s := by
  have r2 : Vals (vs ++ dvs) (us ++ ds) := r.append hd
  have hl : (us ++ ds).length = ps.length := by rw [← r2.length]; exact F.len _ _ _ _ h
  refine wpAny_call (codeAny_mono (F.run X.A X.stack s H ⟨us, []⟩ (us ++ ds) (vs ++ dvs) Q E hr I.env0 (hb s us I.kIn hl) r2 h) fun r s' hq => ?_)
  cases r with
  | error e => exact hx pins σ H s e s' I hq
  | ok fl =>
    cases fl with
    | ret u => exact I.after hq
    | next => exact False.elim hq
    | brk => exact False.elim hq
    | cont => exact False.elim hq

theorem pe_call (F : FnOk X.prog X.w X.K X.mg X.base CX k f fd ps sp) (hr : Room k X.A) (hg : Gl X x) (hm : X.mg x = some (.ref f)) (hk : PySem.W.keepIn X.K (.ref f) = true) (hb : Binds X.K fd ps ds) (hd : Vals dvs ds) (hx : Passes CX X E)
    (ha : PA X (e :: es) t) (hdb : (x == ("__debug__" : Str)) = false := by decide) (he : starEach (e :: es) X.env = (false, eval e X.env) :: starEach es X.env := by rfl) (hpl : (backTo pos (starEach es X.env)).any (·.1) = false := by rfl) :
    PE X (.Call (.Name x p) (e :: es) [] pos) (tCall sp dvs E t) := by
  intro pins s σ H Q I h
  refine wpAny_Call_Name_kw (ld_glob I hg hm ?_ hdb)
  refine PySem.W.callWith_K (h₀ := X.base) I.ok.mod.kin hk (thn (ha pos pins s σ H _ I h) fun us s1 ⟨vs, H1, I1, r, q⟩ => ⟨I1.kIn, ?_⟩) he hpl
  exact run_fn F hr hb hd hx I1 r q
/-- what a class must have to be made -/
structure Mk (K : PySem.W.Frag) (C f : Addr) : Prop where
  makes : PySem.W.makesIn K C = true
  init : PySem.W.findIn K (.ref C) "__init__" = some (some (.ref f))
  fn : PySem.W.isFn K (.ref f) = true
  kp : PySem.W.keepIn K (.ref C) = true

end

/-! ### keywords -/
/-- the values of the keywords, from the left -/
def PK (X : Cx) (kws : List Keyword) (t : TA) : Prop :=
  ∀ (pos : Pos) (pins : List (Addr × Obj)) (s : Shared) (σ : St) (H : Hp) (Q : List V → Hp → Prop), Inv X pins σ H s → t σ H Q → wpAny (model X.prog X.w) X.A (evalAll ((backToKw pos (keywordEach kws X.env)).map (·.2))) (AP X pins σ Q) X.xe s
section
variable {X : Cx} {CX : CXT} {k : Nat} {f C : Addr} {fd : FuncData} {ps ks : List Str} {sp : Sp} {E : XK} {x m : Str} {p pos apos kpos : Pos} {e o : Expr} {es : List Expr} {kws : List Keyword} {te ta : TE} {t tk : TA} {nm : Option Str}
/-- how a call with keywords binds: g puts the positional values us and the keywords' values ws (names ks) in the parameters' order, defaults among them -/
structure KBinds (K : PySem.W.Frag) (fd : FuncData) (ps ks : List Str) (g : List Value → List Value → List Value) (gV : List V → List V → List V) : Prop where
  to : ∀ (s : Shared) (us ws : List Value), K.In s.heap → (g us ws).length = ps.length → BindsTo s fd ⟨us, ks.zip ws⟩ (ps.zip (g us ws))
  rel : ∀ {vs : List V} {us : List Value} {zs : List V} {ws : List Value}, Vals vs us → Vals zs ws → Vals (gV vs zs) (g us ws)
def tCallK (sp : Sp) (gV : List V → List V → List V) (E : XK) (t tk : TA) : TE := fun σ H Q => t σ H fun vs H1 => tk σ H1 fun zs H2 => sp (gV vs zs) H2 Q E
variable {g : List Value → List Value → List Value} {gV : List V → List V → List V}
end

/-! ### a def's body keeps its promise -/
/-- names: the parameters first -/
structure FnScope (N P : List Str) (sc : Scope) : Prop where
  kind : sc.kind = .function
  co : sc.isCoroutine = false
  gen : sc.isGenerator = false
  nd : N.Nodup
  pre : N.take P.length = P
  par : ∀ x ∈ P, sc.names.lookup x = some .local ∨ sc.names.lookup x = some .cell
  nofree : ∀ y ∈ sc.names, y.2 ≠ .free

theorem bindL_out {kindOf : Str → Option NameKind} {x : Str} : ∀ {binds : List (Str × Value)} {m : Str → Option Value}, (∀ v, (x, v) ∉ binds) → bindL kindOf binds m x = m x
  | [], _, _ => rfl
  | (n, v) :: r, m, h => by
    unfold bindL
    rw [bindL_out fun w hw => h w (List.mem_cons_of_mem _ hw)]
    split
    · have : x ≠ n := by rintro rfl; exact h v List.mem_cons_self
      simp [this]
    · rfl
theorem bindC_out {kindOf : Str → Option NameKind} {x : Str} : ∀ {binds : List (Str × Value)} {m : Str → Option Value}, (∀ v, (x, v) ∉ binds) → bindC kindOf binds m x = m x
  | [], _, _ => rfl
  | (n, v) :: r, m, h => by
    unfold bindC
    rw [bindC_out fun w hw => h w (List.mem_cons_of_mem _ hw)]
    split
    · rfl
    · have : x ≠ n := by rintro rfl; exact h v List.mem_cons_self
      simp [this]
theorem bindL_get {kindOf : Str → Option NameKind} {x : Str} {v : Value} : ∀ {P : List Str} {vs : List Value} {i : Nat} {m : Str → Option Value}, P.Nodup → P[i]? = some x → vs[i]? = some v → kindOf x = some .local →
    bindL kindOf (P.zip vs) m x = some v
  | [], _, _, _, _, h, _, _ => by simp at h
  | _ :: _, [], _, _, _, _, h, _ => by simp at h
  | p :: P, w :: vs, 0, m, nd, h1, h2, hk => by
    simp at h1 h2; subst h1; subst h2
    show bindL kindOf ((p, w) :: P.zip vs) m p = _
    unfold bindL
    rw [bindL_out fun v hv => (List.nodup_cons.mp nd).1 (List.of_mem_zip hv).1, if_pos hk]
    simp
  | p :: P, w :: vs, i + 1, m, nd, h1, h2, hk => by
    show bindL kindOf ((p, w) :: P.zip vs) m x = _
    unfold bindL
    exact bindL_get (i := i) (List.nodup_cons.mp nd).2 (by simpa using h1) (by simpa using h2) hk
theorem bindC_get {kindOf : Str → Option NameKind} {x : Str} {v : Value} : ∀ {P : List Str} {vs : List Value} {i : Nat} {m : Str → Option Value}, P.Nodup → P[i]? = some x → vs[i]? = some v → kindOf x ≠ some .local →
    bindC kindOf (P.zip vs) m x = some v
  | [], _, _, _, _, h, _, _ => by simp at h
  | _ :: _, [], _, _, _, _, h, _ => by simp at h
  | p :: P, w :: vs, 0, m, nd, h1, h2, hk => by
    simp at h1 h2; subst h1; subst h2
    show bindC kindOf ((p, w) :: P.zip vs) m p = _
    unfold bindC
    rw [bindC_out fun v hv => (List.nodup_cons.mp nd).1 (List.of_mem_zip hv).1, if_neg hk]
    simp
  | p :: P, w :: vs, i + 1, m, nd, h1, h2, hk => by
    show bindC kindOf ((p, w) :: P.zip vs) m x = _
    unfold bindC
    exact bindC_get (i := i) (List.nodup_cons.mp nd).2 (by simpa using h1) (by simpa using h2) hk

/-- the names' values at the entry -/
def start (N : List Str) (vs : List V) : St := vs.map some ++ List.replicate (N.length - vs.length) none

/-- the context of a def's body, at its entry; an exception leaves the frame, then lies as CX says -/
def cxOf (CX : CXT) (P : Program) (w : World) (K : PySem.W.Frag) (mg : Str → Option Value) (base : Heap) (N : List Str) (qual : Str) (scope : Scope) (f : Addr) (cd : Value) (A : Around) (outer : List Env) (s : Shared) (H : Hp) (E : XK) : Cx where
  prog := P
  w := w
  K := K
  mg := mg
  base := base
  A := A.deeper (envOfC qual scope s.heap.objs.size f cd)
  N := N
  s₀ := s
  H₀ := H
  env := envOfC qual scope s.heap.objs.size f cd
  outer := outer
  stack := envOfC qual scope s.heap.objs.size f cd :: outer
  ex := []
  calm := true
  fn := fun _ => true
  pn := []
  xe := fun e s' => wpAny (model P w) (A.deeper (envOfC qual scope s.heap.objs.size f cd)) (leaving (envOfC qual scope s.heap.objs.size f cd) e) (fun _ s'' => CX outer H s E e s'') (fun e' s'' => CX outer H s E e' s'') s'

theorem cell_has {sc : Scope} {n : Nat} {x : Str} (h : sc.names.lookup x = some .cell) : ∃ c, (cellsFrom n sc.names []).lookup x = some c := by
  have q := PySem.W.cellsFrom_some sc.names n [] (.inl h)
  exact Option.isSome_iff_exists.mp q

theorem inv_start {CX : CXT} {P : Program} {w : World} {K : PySem.W.Frag} {mg : Str → Option Value} {base : Heap} {N ps : List Str} {qual : Str} {scope : Scope} {f : Addr} {cd : Value} {A : Around} {outer : List Env} {s s1 : Shared} {H : Hp} {E : XK} {us : List Value} {vs : List V}
    (S : FnScope N ps scope) (hd : A.handled = none) (e0 : Env0 P w K mg base A outer s H) (hl : vs.length = ps.length) (r : Vals vs us)
    (x : InCallC s s.heap.objs.size (bindL (envOfC qual scope s.heap.objs.size f cd).kindOf (ps.zip us) fun _ => none) (cellsFrom (s.heap.objs.size + 1) scope.names []) (bindC (envOfC qual scope s.heap.objs.size f cd).kindOf (ps.zip us) fun _ => none) s1) :
    Inv (cxOf CX P w K mg base N qual scope f cd A outer s H E) [] (start N vs) H s1 := by
  have hpl : ps.length ≤ N.length := by have := congrArg List.length S.pre; rw [List.length_take] at this; omega
  obtain ⟨h1, tk, rfl, hk⟩ := x.done
  have noA : ∀ b : Addr, b ∉ (cxOf CX P w K mg base N qual scope f cd A outer s H E).ex := fun b z => absurd (show b ∈ ([] : List Addr) from z) (by simp)
  refine ⟨⟨e0.mod, S.kind, rfl, rfl, Nat.le_refl _, fun y z c h1 h2 => ?_, fun y hy => ?_, fun y c _ h => ?_, fun _ => hd, Around.frames_deeper e0.frames, .inr ⟨rfl, rfl⟩, fun b z => absurd z (noA b), e0.bs, e0.bsz, fun b _ _ => noA b, fun b z => absurd z (noA b), e0.funs, e0.frf⟩,
    rfl, e0.bare, Un.kept hk, ⟨_, x.toInCall.ns, fun i y v h1 h2 h3 => ?_⟩, fun y c h => ⟨_, x.cell y c h⟩, e0.hok.fresh (Nat.le_refl _), fun y c h => ?_, fun p hp => absurd (show p ∈ ([] : List (Addr × Obj)) from hp) (by simp), e0.hok.kept hk, ?_⟩
  · exact name_of_addr x.apart (PySem.mem_of_lookup h1) (PySem.mem_of_lookup h2)
  · have hy : scope.names.lookup y = some .cell ∨ scope.names.lookup y = some .free := hy
    rcases hy with hy | hy
    · exact cell_has hy
    · exact absurd rfl (S.nofree _ (PySem.mem_of_lookup hy))
  · exact Nat.le_of_lt (x.above y c (PySem.mem_of_lookup h))
  · have hi : i < vs.length := by
      unfold start at h2
      by_cases hi : i < vs.length
      · exact hi
      · rw [List.getElem?_append_right (by simpa using hi)] at h2
        rw [List.getElem?_replicate] at h2
        split at h2 <;> cases h2
    have ha : vs[i]? = some v := by
      unfold start at h2
      rw [List.getElem?_append_left (by simpa using hi), List.getElem?_map] at h2
      cases e : vs[i]? with
      | none => rw [e] at h2; cases h2
      | some a => rw [e] at h2; cases h2; rfl
    obtain ⟨u, hu, rv⟩ := r.get ha
    have hp : ps[i]? = some y := by
      rw [← S.pre, List.getElem?_take_of_lt (by omega)]; exact h1
    have ndP : ps.Nodup := by rw [← S.pre]; exact S.nd.sublist (List.take_sublist _ _)
    refine ⟨u, rv, ?_⟩
    rcases S.par y (List.mem_of_getElem? hp) with k | k
    · exact .inl ⟨k, bindL_get ndP hp hu k⟩
    · obtain ⟨c, e⟩ := cell_has (n := s.heap.objs.size + 1) k
      refine .inr ⟨.inl k, c, e, ?_⟩
      have q := x.cell y c e
      rw [bindC_get ndP hp hu (by show scope.names.lookup y ≠ _; rw [k]; decide)] at q
      exact q
  · exact e0.hok.fresh (Nat.le_of_lt (x.above y c (PySem.mem_of_lookup h)))
  · unfold start
    show _ = N.length
    rw [List.length_append, List.length_map, List.length_replicate]
    omega

/-- THE RULE: a def (or a method) of the text, by its body. The body's reading t is chosen for each entry; it is run at the parameters' values -/
theorem fn_of {CX : CXT} {P : Program} {w : World} {K : PySem.W.Frag} {mg : Str → Option Value} {base : Heap} {k : Nat} {f : Addr} {name qual : Str} {params : Arguments} {body : List Stmt} {scope : Scope} {dV kV doc pm cdv ct oc : Value} {an od : Option Addr}
    {osl : Array (Option Value)} {N ps : List Str} {sp : Sp} (lk : K.lookup f = some ⟨oc, od, .func (PySem.W.fnOf name qual params body scope dV kV doc pm an cdv ct), osl⟩) (hcd : PySem.W.codeIn K cdv qual = true) (S : FnScope N ps scope)
    (len : ∀ vs H Q E, sp vs H Q E → vs.length = ps.length)
    (hbody : ∀ (A : Around) (outer : List Env) (s : Shared) (H : Hp) (vs : List V) (Q : VK) (E : XK), Room k (A.deeper (envOfC qual scope s.heap.objs.size f cdv)) → sp vs H Q E →
      ∃ t, PSs (cxOf CX P w K mg base N qual scope f cdv A outer s H E) body t ∧ t { nx := fun _ H' => Q .non H', rt := Q } (start N vs) H) :
    FnOk P w K mg base CX (k + 1) f (PySem.W.fnOf name qual params body scope dV kV doc pm an cdv ct) ps sp := by
  refine ⟨len, fun A outer s H args us vs Q E hr e0 hb r hsp => ?_⟩
  have hl := len _ _ _ _ hsp
  have KX : K.In s.heap := e0.mod.kin.keeps fun b o e => (e0.bs b o e).1
  have lim : s.heap.NoLimit := e0.mod.nolimit.keeps fun b o e => (e0.bs b o e).1
  have hkind : ∀ y ∈ ps.zip us, scope.names.lookup y.1 = some .local ∨ (scope.names.lookup y.1 = some .cell ∧ ((cellsFrom (s.heap.objs.size + 1) scope.names []).lookup y.1).isSome = true) := fun ⟨n, v⟩ hy => by
    rcases S.par n (List.of_mem_zip hy).1 with q | q
    · exact .inl q
    · exact .inr ⟨q, PySem.W.cellsFrom_some _ _ _ (.inl q)⟩
  refine codeAny_call_function hr.depth (KX _ _ lk) rfl S.co S.gen rfl (PySem.W.codeRec_of KX hcd) (hb _ _ _ _ ?_)
  refine wpAny_newFunctionEnv_cells S.kind hkind fun env he s1 x => ?_
  subst he
  refine ⟨lim.keeps x.toInCall.keep, codeAny_func ?_⟩
  obtain ⟨t, ht, hq⟩ := hbody A outer s H vs Q E (hr.deeper _) hsp
  have I : Inv (cxOf CX P w K mg base N qual scope f cdv A outer s H E) [] (start N vs) H s1 := inv_start S hr.hd e0 hl r x
  refine wpAny_mono (ht [] s1 (start N vs) H _ I hq) (fun fl s' hs => ?_) fun e s' hs => hs
  have fin : ∀ {σ' : St} {H' : Hp} {v : V} {u : Value}, Inv (cxOf CX P w K mg base N qual scope f cdv A outer s H E) [] σ' H' s' → RelV v u → Q v H' → CE outer P w H s Q u s' :=
    fun {σ' H' v u} J rv q => ⟨v, H', J.os, J.bare, J.base, J.hok, rv, q⟩
  cases fl with
  | ret u =>
    obtain ⟨v, σ', H', J, rv, q⟩ := hs
    exact fin J rv q
  | next =>
    obtain ⟨σ', H', J, q⟩ := hs
    exact fin (v := V.non) (u := Value.none) J rfl q
  | brk =>
    obtain ⟨_, _, _, q⟩ := hs
    exact False.elim q
  | cont =>
    obtain ⟨_, _, _, q⟩ := hs
    exact False.elim q
end L2

namespace L2
open PySem PySem.Spec PyProof.Rows
section
variable {X : Cx} {x : Str} {p pos : Pos} {e : Expr} {es : List Expr} {t : TA} {id T : String} {r : List V → Hp → VK → Prop}

def tCB (r : List V → Hp → VK → Prop) (t : TA) : TE := fun σ H Q => t σ H fun vs H1 => r vs H1 Q
/-- f(e, ..), f a built-in function -/
theorem pe_callB (hc : CallR X (.builtin id) r) (hg : Gl X x) (hm : X.mg x = none) (hv : bootBuiltins x = some (.builtin id)) (ha : PA X (e :: es) t) (hn : x ≠ "__name__" := by decide) (hdb : (x == ("__debug__" : Str)) = false := by decide)
    (he : starEach (e :: es) X.env = (false, eval e X.env) :: starEach es X.env := by rfl) (hpl : (backTo pos (starEach es X.env)).any (·.1) = false := by rfl) : PE X (.Call (.Name x p) (e :: es) [] pos) (tCB r t) := by
  intro pins s σ H Q I h
  refine wpAny_Call_Name_kw (ld_blt I hg hm hv ?_ hn hdb)
  exact PyProof.Rows.callWith_builtin1 (thn (ha pos pins s σ H _ I h) fun us s1 ⟨vs, H1, I1, r1, q1⟩ => hc pins s1 σ H1 vs us Q I1 r1 q1) he hpl
/-- T(e, ..), T a built-in type -/
theorem pe_callTy (hc : CallR X (.type T) r) (hg : Gl X x) (hm : X.mg x = none) (hv : bootBuiltins x = some (.type T)) (ha : PA X (e :: es) t) (hn : x ≠ "__name__" := by decide) (hdb : (x == ("__debug__" : Str)) = false := by decide)
    (he : starEach (e :: es) X.env = (false, eval e X.env) :: starEach es X.env := by rfl) (hpl : (backTo pos (starEach es X.env)).any (·.1) = false := by rfl) : PE X (.Call (.Name x p) (e :: es) [] pos) (tCB r t) := by
  intro pins s σ H Q I h
  refine wpAny_Call_Name_kw (ld_blt I hg hm hv ?_ hn hdb)
  exact PyProof.Rows.callWith_type1 (thn (ha pos pins s σ H _ I h) fun us s1 ⟨vs, H1, I1, r1, q1⟩ => hc pins s1 σ H1 vs us Q I1 r1 q1) he hpl
end
end L2

namespace HT
open PySem PyProof.Rows

/-- t < u of tuples of ints -/
def lexLt : List Int → List Int → Bool
  | [], [] => false
  | [], _ :: _ => true
  | _ :: _, [] => false
  | x :: xs, y :: ys => if x = y then lexLt xs ys else decide (x < y)
section
open PySem.SeqAt
open PySem.AutoSeq1 (wpAny_loadPart')
open PySem.MeetsSeq PySem.MeetsSeq2 PySem.MeetsSeq3

end

section
variable {prog : Program} {w : World} {A : Around} {E : Value → Shared → Prop} {s : Shared}

/-! ### t[a:b], not the whole -/
/-- a slice's bound as a place among n (d where it is left out) -/
def sIx (n d : Nat) : Option Int → Nat
  | none => d
  | some v => if v < 0 then (v + (n : Int)).toNat else min v.toNat n
theorem sIx_none (n d : Nat) : sIx n d none = d := rfl
theorem sIx_nat (n d k : Nat) : sIx n d (some (k : Int)) = min k n := by
  show (if (k : Int) < 0 then ((k : Int) + (n : Int)).toNat else min (k : Int).toNat n) = min k n
  rw [if_neg (by omega), Int.toNat_natCast]
theorem sIx_le (n d : Nat) (hd : d ≤ n) (o : Option Int) : sIx n d o ≤ n := by
  cases o with
  | none => exact hd
  | some v =>
    show (if v < 0 then (v + (n : Int)).toNat else min v.toNat n) ≤ n
    by_cases hv : v < 0
    · rw [if_pos hv]; omega
    · rw [if_neg hv]; exact Nat.min_le_right _ _
theorem clip_eq (v : Int) (n d : Nat) : (if v < 0 then max (v + (n : Int)) 0 else min v (n : Int)) = ((sIx n d (some v) : Nat) : Int) := by
  show (if v < 0 then max (v + (n : Int)) 0 else min v (n : Int)) = (((if v < 0 then (v + (n : Int)).toNat else min v.toNat n) : Nat) : Int)
  by_cases hv : v < 0
  · simp only [if_pos hv]; omega
  · simp only [if_neg hv]; omega
theorem adjust_gen (lo hi : Option Int) (n : Nat) : Builtin.Slice.sliceAdjust lo hi 1 (n : Int) = (((sIx n 0 lo : Nat) : Int), ((sIx n n hi : Nat) : Int)) := by
  have h1 : ¬ ((1 : Int) < 0) := by omega
  unfold Builtin.Slice.sliceAdjust
  simp only [h1, if_false]
  refine Prod.ext ?_ ?_
  · cases lo with
    | none => rfl
    | some v => exact clip_eq v n 0
  · cases hi with
    | none => rfl
    | some v => exact clip_eq v n n
theorem places_gen (i j : Nat) : Builtin.Slice.slicePlaces (i : Int) (j : Int) 1 = j - i := by
  unfold Builtin.Slice.slicePlaces
  have h1 : (1 : Int) > 0 := by omega
  simp only [h1, if_true, Int.ediv_one]
  split <;> omega
theorem slicePart_ {v : Value} {o : Option Int} {Q : Option Int → Shared → Prop} (p : IsPart v o) (h : Q o s) : wpAny (model prog w) A (Builtin.Slice.slicePartIndex v) Q E s := by
  cases p with
  | none => exact slicePart_none h
  | int i t => exact slicePart_int h
theorem sliceApplied_gen {sl : Addr} {vl vu : Value} {lo hi : Option Int} {n : Nat} {Q : Int × Int × Nat → Shared → Prop} (hs : s.heap.IsSliceOf sl vl vu .none) (pl : IsPart vl lo) (pu : IsPart vu hi)
    (h : Q (((sIx n 0 lo : Nat) : Int), 1, sIx n n hi - sIx n 0 lo) s) : wpAny (model prog w) A (Builtin.Slice.sliceApplied (.ref sl) (pure (n : Int))) Q E s := by
  obtain ⟨os, hos, hcs, hds⟩ := id hs
  unfold Builtin.Slice.sliceApplied Builtin.Slice.sliceFields
  refine wpAny_bind (wpAny_bind (wpAny_field hos hds (x := vl) rfl (wpAny_bind (wpAny_field hos hds (x := vu) rfl (wpAny_bind (wpAny_field hos hds (x := .none) rfl (wpAny_pure ?_)))))))
  refine wpAny_bind (slicePart_none ?_)
  show wpAny _ _ (if ((1 : Int) == 0) = true then _ else _) _ _ s
  rw [if_neg (by decide)]
  refine wpAny_bind (slicePart_ pl (wpAny_bind (slicePart_ pu (wpAny_bind (wpAny_pure ?_)))))
  show wpAny _ _ (match Builtin.Slice.sliceAdjust lo hi 1 (n : Int) with | (lo, hi) => pure (lo, (1 : Int), Builtin.Slice.slicePlaces lo hi 1)) _ _ s
  rw [adjust_gen lo hi n]
  show wpAny _ _ (pure (((sIx n 0 lo : Nat) : Int), (1 : Int), Builtin.Slice.slicePlaces ((sIx n 0 lo : Nat) : Int) ((sIx n n hi : Nat) : Int) 1)) _ _ s
  rw [places_gen]
  exact wpAny_pure h
theorem pick_gen (xs : Array Value) (i k : Nat) : ((List.range k).filterMap fun (m : Nat) => xs[((i : Int) + (m : Int) * 1).toNat]?).toArray = ((xs.toList.drop i).take k).toArray := by
  have e : (fun (m : Nat) => xs[((i : Int) + (m : Int) * 1).toNat]?) = fun m => xs[i + m]? := by
    funext m
    have : ((i : Int) + (m : Int) * 1).toNat = i + m := by omega
    rw [this]
  rw [e]
  have := pick_run xs i k
  rw [List.filterMap_map] at this
  have e2 : ((fun x => xs[x]?) ∘ fun x => i + x) = fun m => xs[i + m]? := rfl
  rw [e2] at this
  rw [this]

theorem getItem_tuple_cut {t sl : Addr} {items : Array Value} {vl vu : Value} {lo hi : Option Int} {Q : Value → Shared → Prop} (ht : IsTup s.heap t items) (hs : s.heap.IsSliceOf sl vl vu .none) (pl : IsPart vl lo) (pu : IsPart vu hi)
    (hw : ¬ (sIx items.size 0 lo = 0 ∧ sIx items.size items.size hi = items.size))
    (h : Q (.ref s.heap.objs.size) { s with heap := s.heap.push { cls := .type "tuple", data := .seq ((items.toList.drop (sIx items.size 0 lo)).take (sIx items.size items.size hi - sIx items.size 0 lo)).toArray } })
    (hsz : items.size ≤ sizeLine) : wpAny (model prog w) A (getItem (.ref t) (.ref sl)) Q E s := by
  have htake : sizeOk (.seq ((items.toList.drop (sIx items.size 0 lo)).take (sIx items.size items.size hi - sIx items.size 0 lo)).toArray) := by
    show ((items.toList.drop (sIx items.size 0 lo)).take (sIx items.size items.size hi - sIx items.size 0 lo)).toArray.size ≤ sizeLine
    rw [List.size_toArray, List.length_take, List.length_drop, Array.length_toList]
    omega
  have hj : sIx items.size items.size hi ≤ items.size := sIx_le _ _ (Nat.le_refl _) hi
  obtain ⟨os, hos, hcs, hds⟩ := id hs
  have hTs : s.TypeIs (.ref sl) "slice" := ⟨os, hos, hcs⟩
  unfold getItem
  try with_reducible refine wpAny_holding ?_
  first | refine wpAny_bind (wpAny_pure ?_) | skip
  refine wpAny_bind (wpAny_sequenceKey ht.typeIs (by decide) ?_)
  refine wpAny_bind (wpAny_callSpecial?_slot (name := Str.ofString "__getitem__") ht.typeIs PyProof.Rows.slot_tuple_getitem
    (wpAny_call_entry PyProof.Rows.slot_tuple_getitem ht.typeIs entry_tuple_getitem ?_ (args_tuple_getitem _ _)))
  show wpAny _ _ (Builtin.Tuple.tupleItemsOf (.ref t) >>= _) _ _ s
  refine wpAny_bind (tupleItemsOf_ ht ?_)
  refine wpAny_bind (wpAny_typeOf hTs ?_)
  rw [if_pos (by decide)]
  refine wpAny_bind (sliceApplied_gen hs pl pu ?_)
  have hno : ¬ ((((sIx items.size 0 lo : Nat) : Int) == 0 && (1 : Int) == 1 && (sIx items.size items.size hi - sIx items.size 0 lo) == items.size) = true) := by
    intro q
    rw [Bool.and_eq_true, Bool.and_eq_true] at q
    have q1 : ((sIx items.size 0 lo : Nat) : Int) = 0 := eq_of_beq q.1.1
    have q2 : sIx items.size items.size hi - sIx items.size 0 lo = items.size := eq_of_beq q.2
    exact hw ⟨by omega, by omega⟩
  show wpAny _ _ (if (((sIx items.size 0 lo : Nat) : Int) == 0 && (1 : Int) == 1 && (sIx items.size items.size hi - sIx items.size 0 lo) == items.size) = true then _ else _) _ _ s
  rw [if_neg hno, pick_gen]
  first
    | exact wpAny_bind (m := Builtin.Tuple.tupleExact _) (wpAny_newObj_type (wpAny_pure ⟨_, rfl, wpAny_pure h⟩) htake)
    | exact wpAny_bind (m := Builtin.Tuple.tupleExact _) (wpAny_newObj_type (wpAny_bind (wpAny_pure (wpAny_pure ⟨_, rfl, wpAny_pure h⟩))) htake)
    | exact wpAny_bind (wpAny_bind (m := Builtin.Tuple.tupleExact _) (wpAny_newObj_type (wpAny_pure (wpAny_pure ⟨_, rfl, wpAny_pure h⟩)) htake))
    | exact wpAny_bind (wpAny_bind (m := Builtin.Tuple.tupleExact _) (wpAny_newObj_type (wpAny_pure ⟨_, rfl, wpAny_pure h⟩) htake))
end
end HT

namespace L2
open PySem PySem.Spec PyProof.Rows

/-! ### the parts of a slice -/
abbrev TO := St → Hp → (Option Int → Hp → Prop) → Prop
/-- a slice's part (left out, or an int) -/
def PO (X : Cx) (e : Option Expr) (t : TO) : Prop :=
  ∀ (pins : List (Addr × Obj)) (s : Shared) (σ : St) (H : Hp) (Q : Option Int → Hp → Prop), Inv X pins σ H s → t σ H Q →
    wpAny (model X.prog X.w) X.A (evalPart e X.env) (fun u s' => ∃ o H', Inv X pins σ H' s' ∧ IsPart u o ∧ Q o H') X.xe s
def tNoPart : TO := fun _ H Q => Q none H
def tPart (t : TE) : TO := fun σ H Q => t σ H fun x H1 => ∃ i, x = .int i ∧ Q (some i) H1

theorem intsAre_of {ns : List Int} : ∀ {us : List Value}, Vals (ns.map V.int) us → IntsAre us ns := by
  induction ns with
  | nil => intro us r; rw [List.map_nil] at r; cases r; exact .nil
  | cons n ns ih =>
    intro us r
    rw [List.map_cons] at r
    cases r with
    | cons r1 r2 =>
      obtain ⟨t, e⟩ := r1
      subst e
      exact .cons n t (ih r2)

section
variable {X : Cx} {e : Expr} {te : TE} {lo hi : Option Expr} {tl th : TO} {pos p2 : Pos}

theorem po_none : PO X none tNoPart := by
  intro pins s σ H Q I h
  rw [evalPart_none]
  exact wpAny_pure ⟨none, H, I, .none, h⟩
theorem po_some (h : PE X e te) : PO X (some e) (tPart te) := by
  intro pins s σ H Q I hw
  rw [evalPart_some]
  refine thn (h pins s σ H _ I hw) fun u s1 ⟨x, H1, I1, r1, q1⟩ => ?_
  obtain ⟨i, rfl, q⟩ := q1
  obtain ⟨t, rfl⟩ := r1
  exact ⟨some i, H1, I1, .int i t, q⟩

/-- what a slice of a value is, by values: the slice object stands at sl -/
def SlR (X : Cx) (r : V → Option Int → Option Int → Hp → VK → Prop) : Prop :=
  ∀ (pins : List (Addr × Obj)) (s : Shared) (σ : St) (H : Hp) (x : V) (v vl vu : Value) (lo hi : Option Int) (sl : Addr) (Q : VK), Inv X pins σ H s → RelV x v → s.heap.IsSliceOf sl vl vu .none → IsPart vl lo → IsPart vu hi → r x lo hi H Q →
    ∃ T id, typeLookup (.type T) "__getitem__" = pure (some (.builtin id)) ∧ s.TypeIs v T ∧ wpAny (model X.prog X.w) X.A (getItem v (.ref sl)) (EP X pins σ Q) X.xe s
theorem SlR.or {r r' : V → Option Int → Option Int → Hp → VK → Prop} (h : SlR X r) (h' : SlR X r') : SlR X (fun x lo hi H Q => r x lo hi H Q ∨ r' x lo hi H Q) := by
  intro pins s σ H x v vl vu lo hi sl Q I rx hs pl pu q
  rcases q with q | q
  · exact h pins s σ H x v vl vu lo hi sl Q I rx hs pl pu q
  · exact h' pins s σ H x v vl vu lo hi sl Q I rx hs pl pu q
def tSl (r : V → Option Int → Option Int → Hp → VK → Prop) (te : TE) (tl th : TO) : TE := fun σ H Q => te σ H fun x H1 => tl σ H1 fun l H2 => th σ H2 fun u H3 => r x l u H3 Q
/-- a[lo:hi], any a -/
theorem pe_slice {r : V → Option Int → Option Int → Hp → VK → Prop} (hr : SlR X r) (he : PE X e te) (hl : PO X lo tl) (hu : PO X hi th) : PE X (.Subscript e (.Slice lo hi none p2) pos) (tSl r te tl th) := by
  intro pins s σ H Q I h
  refine Subscript_ (thn (he pins s σ H _ I h) fun v s1 ⟨x, H1, I1, r1, q1⟩ => ?_)
  refine wpAny_Slice (thn (hl pins s1 σ H1 _ I1 q1) fun vl s2 ⟨l, H2, I2, pl, q2⟩ => thn (hu pins s2 σ H2 _ I2 q2) fun vu s3 ⟨u, H3, I3, pu, q3⟩ => ?_)
  rw [evalPart_none]
  refine wpAny_pure ?_
  have I4 : Inv X pins σ H3 { s3 with heap := s3.heap.push { cls := .type "slice", data := .fields #[vl, vu, .none] } } := I3.kept (t' := s3.toks) fun b ob q => Heap.get?_push_of_some _ q
  obtain ⟨T, id, hT, ht, hg⟩ := hr pins { s3 with heap := s3.heap.push { cls := .type "slice", data := .fields #[vl, vu, .none] } } σ H3 x v vl vu l u s3.heap.objs.size Q I4 r1 (Heap.IsSliceOf.new ..) pl pu q3
  show wpAny (model X.prog X.w) X.A (subscriptTail e (.Slice lo hi none p2) v (.ref s3.heap.objs.size)) (EP X pins σ Q) X.xe { s3 with heap := s3.heap.push { cls := .type "slice", data := .fields #[vl, vu, .none] } }
  exact tail_any (ops := [.ref s3.heap.objs.size, v]) ht hT hg (by with_unfolding_all rfl)

/-- the items of xs[lo:hi] -/
def cutV (xs : List V) (lo hi : Option Int) : List V := (xs.drop (HT.sIx xs.length 0 lo)).take (HT.sIx xs.length xs.length hi - HT.sIx xs.length 0 lo)
theorem cutV_length (xs : List V) (lo hi : Option Int) : (cutV xs lo hi).length ≤ xs.length := by
  unfold cutV
  rw [List.length_take, List.length_drop]
  omega
/-- t[lo:hi], not the whole of it (the whole would be t itself) -/
def rSlT (K : PySem.W.Frag) : V → Option Int → Option Int → Hp → VK → Prop := fun x lo hi H Q => ∃ a xs, x = .ref a ∧ SqT K H a xs ∧
  ¬ (HT.sIx xs.length 0 lo = 0 ∧ HT.sIx xs.length xs.length hi = xs.length) ∧ ∀ p, H p = none → Q (.ref p) (upd H p (.tup (cutV xs lo hi)))
theorem sl_tup : SlR X (rSlT X.K) := by
  intro pins s σ H x v vl vu lo hi sl Q I rx hs pl pu h
  obtain ⟨a, xs, rfl, hx, hw, q⟩ := h
  cases rx
  obtain ⟨its, r, ht, hz⟩ := I.tuple hx
  have hlen : its.toArray.size = xs.length := by rw [List.size_toArray]; exact r.length.symm
  refine ⟨"tuple", _, PyProof.Rows.slot_tuple_getitem.lookup, ht.typeIs, ?_⟩
  refine HT.getItem_tuple_cut ht hs pl pu (by rw [hlen]; exact hw) ?_ (by rw [hlen]; exact hz)
  rw [hlen]
  refine ⟨.ref s.heap.objs.size, _, I.laid (t' := s.toks) (o := .tup (cutV xs lo hi)) (fun b ob q => Heap.get?_push_of_some _ q) (Nat.le_refl _) ?_, rfl, q _ (I.hok.fresh (Nat.le_refl _))⟩
  exact ⟨Nat.le_trans (cutV_length xs lo hi) hz, _, (r.drop (HT.sIx xs.length 0 lo)).take (HT.sIx xs.length xs.length hi - HT.sIx xs.length 0 lo), IsTup.new _ _⟩

/-! ### t < u, t + u -/
def rLtT (K : PySem.W.Frag) : R2 := fun x y H Q => ∃ a b ns ms, x = .ref a ∧ y = .ref b ∧ SqT K H a (ns.map V.int) ∧ SqT K H b (ms.map V.int) ∧ Q (.bl (HT.lexLt ns ms)) H
/-- t + u, t not empty: u empty gives t itself -/
def rCatT (K : PySem.W.Frag) : R2 := fun x y H Q => ∃ a b xs ys, x = .ref a ∧ y = .ref b ∧ SqT K H a xs ∧ SqT K H b ys ∧ xs ≠ [] ∧ xs.length + ys.length ≤ sizeLine ∧
  (ys = [] → Q (.ref a) H) ∧ (ys ≠ [] → ∀ p, H p = none → Q (.ref p) (upd H p (.tup (xs ++ ys))))
end
end L2

namespace L2
open PySem PySem.Spec PyProof.Rows

/-! ### places -/
/-- the place that an index of any sign means -/
def ixN (n : Nat) (i : Int) : Option Nat := if 0 ≤ i then (if i < n then some i.toNat else none) else if -(n : Int) ≤ i then some (i + n).toNat else none
def atI {α : Type} (xs : List α) (i : Int) : Option α := (ixN xs.length i).bind fun j => xs[j]?
theorem ixN_seq {n : Nat} {i : Int} {j : Nat} (h : ixN n i = some j) : seqIndex? i n = some j ∧ j < n ∧ -(n : Int) ≤ i ∧ i < n := by
  unfold ixN at h
  by_cases h0 : 0 ≤ i
  · rw [if_pos h0] at h
    by_cases h1 : i < n
    · rw [if_pos h1] at h
      have e : i.toNat = j := Option.some.inj h
      exact ⟨by rw [seqIndex_of h0 h1, e], by omega, by omega, h1⟩
    · rw [if_neg h1] at h; cases h
  · rw [if_neg h0] at h
    by_cases h1 : -(n : Int) ≤ i
    · rw [if_pos h1] at h
      have e : (i + n).toNat = j := Option.some.inj h
      exact ⟨by rw [seqIndex_neg (by omega) h1, e], by omega, h1, by omega⟩
    · rw [if_neg h1] at h; cases h
theorem atI_get {α : Type} {xs : List α} {i : Int} {v : α} (h : atI xs i = some v) : ∃ j, seqIndex? i xs.length = some j ∧ xs[j]? = some v ∧ j < xs.length ∧ -(xs.length : Int) ≤ i ∧ i < xs.length := by
  unfold atI at h
  cases e : ixN xs.length i with
  | none => rw [e] at h; cases h
  | some j =>
    rw [e] at h
    obtain ⟨h1, h2, h3, h4⟩ := ixN_seq e
    exact ⟨j, h1, h, h2, h3, h4⟩
theorem atI_nat {α : Type} {xs : List α} {j : Nat} {v : α} (h : xs[j]? = some v) : atI xs (j : Int) = some v := by
  have hj : j < xs.length := (List.getElem?_eq_some_iff.mp h).1
  have e : ixN xs.length (j : Int) = some j := by
    unfold ixN
    rw [if_pos (by omega), if_pos (by omega)]; simp
  unfold atI; rw [e]; exact h
theorem atI_last {α : Type} (xs : List α) (v : α) : atI (xs ++ [v]) (-1) = some v := by
  have hl : (xs ++ [v]).length = xs.length + 1 := by simp
  have e : ixN (xs ++ [v]).length (-1) = some xs.length := by
    unfold ixN
    rw [hl, if_neg (by decide), if_pos (by omega)]
    congr 1
    omega
  unfold atI
  rw [e]
  show (xs ++ [v])[xs.length]? = some v
  simp

/-! ### what may be subscripted -/
/-- what stands as an index of a plain subscript -/
def PlainIx (b : Expr) : Prop := ∀ o i, subscripted b false o i = operate [o, i] (getItem o i)
/-- a subscript by values -/
def IxR (X : Cx) (r : R2) : Prop :=
  ∀ (value slice : Expr) (pins : List (Addr × Obj)) (s : Shared) (σ : St) (H : Hp) (x y : V) (v u : Value) (Q : VK), Inv X pins σ H s → RelV x v → RelV y u → r x y H Q →
    subscripted slice false v u = operate [v, u] (getItem v u) → wpAny (model X.prog X.w) X.A (subscriptTail value slice v u) (EP X pins σ Q) X.xe s
/-- a call of a builtin's method by values: the receiver, the arguments -/
def MtR (X : Cx) (id : String) (r : V → List V → Hp → VK → Prop) : Prop :=
  ∀ (pins : List (Addr × Obj)) (s : Shared) (σ : St) (H : Hp) (x : V) (xs : List V) (v : Value) (us : List Value) (Q : VK), Inv X pins σ H s → RelV x v → Vals xs us → r x xs H Q →
    wpAny (model X.prog X.w) X.A (call (.builtin id) (v :: us)) (EP X pins σ Q) X.xe s
section
variable {X : Cx} {a b : Expr} {ta tb : TE} {pos : Pos}
theorem IxR.or {r r' : R2} (h : IxR X r) (h' : IxR X r') : IxR X (fun x y H Q => r x y H Q ∨ r' x y H Q) := by
  intro value slice pins s σ H x y v u Q I rx ry q hs
  rcases q with q | q
  · exact h value slice pins s σ H x y v u Q I rx ry q hs
  · exact h' value slice pins s σ H x y v u Q I rx ry q hs
theorem MtR.or {id : String} {r r' : V → List V → Hp → VK → Prop} (h : MtR X id r) (h' : MtR X id r') : MtR X id (fun x xs H Q => r x xs H Q ∨ r' x xs H Q) := by
  intro pins s σ H x xs v us Q I rx rs q
  rcases q with q | q
  · exact h pins s σ H x xs v us Q I rx rs q
  · exact h' pins s σ H x xs v us Q I rx rs q
/-- a[b] -/
theorem pe_ix {r : R2} (hr : IxR X r) (ha : PE X a ta) (hb : PE X b tb) (hs : PlainIx b) : PE X (.Subscript a b pos) (tOp r ta tb) := by
  intro pins s σ H Q I h
  exact Subscript_ (binT ha hb I h fun v u s2 x y H2 I2 rx ry q => hr a b pins s2 σ H2 x y v u Q I2 rx ry q (hs _ _))

def rIxL (K : PySem.W.Frag) : R2 := fun x y H Q => ∃ p xs i v, x = .ref p ∧ y = .int i ∧ SqL K H p xs ∧ atI xs i = some v ∧ Q v H
def rIxT (K : PySem.W.Frag) : R2 := fun x y H Q => ∃ p xs i v, x = .ref p ∧ y = .int i ∧ SqT K H p xs ∧ atI xs i = some v ∧ Q v H
def rIxS : R2 := fun x y H Q => ∃ z i c, x = .str z ∧ y = .int i ∧ z.length ≤ sizeLine ∧ atI z.cps.toList i = some c ∧ Q (.str ⟨#[c]⟩) H
theorem ix_list : IxR X (rIxL X.K) := by
  intro value slice pins s σ H x y v u Q I rx ry h hs
  obtain ⟨p, xs, i, z, rfl, rfl, hq, he, q⟩ := h
  cases rx
  obtain ⟨t, rfl⟩ := ry
  obtain ⟨its, r, pl, hz⟩ := I.list hq
  obtain ⟨j, h1, h2, h3, h4, h5⟩ := atI_get he
  obtain ⟨w, ew, rw'⟩ := r.get h2
  have hl := r.length
  have hn := line63
  have fin : EP X pins σ Q w s := ⟨z, H, I, rw', q⟩
  by_cases h0 : 0 ≤ i
  · have hj : i.toNat = j := by
      rw [seqIndex_of h0 h5] at h1
      exact Option.some.inj h1
    exact item_listR pl.isList h0 (by omega) (by rw [hj]; simpa using ew) fin hs
  · have hj : (i + (its.toArray.size : Int)).toNat = j := by
      rw [seqIndex_neg (by omega) h4] at h1
      rw [List.size_toArray, ← hl]
      exact Option.some.inj h1
    exact subscriptTail_builtinR (x := w) pl.isList.typeIs slot_list_getitem.lookup
      (wpAny_getItem_list_neg (Q := fun r s' => r = w ∧ EP X pins σ Q r s') pl.isList (by omega) (by rw [List.size_toArray] <;> omega) (by omega) (by rw [hj]; simpa using ew) ⟨rfl, fin⟩) hs
theorem ix_tup : IxR X (rIxT X.K) := by
  intro value slice pins s σ H x y v u Q I rx ry h hs
  obtain ⟨p, xs, i, z, rfl, rfl, hq, he, q⟩ := h
  cases rx
  obtain ⟨t, rfl⟩ := ry
  obtain ⟨its, r, pl, hz⟩ := I.tuple hq
  obtain ⟨j, h1, h2, h3, h4, h5⟩ := atI_get he
  obtain ⟨w, ew, rw'⟩ := r.get h2
  have hl := r.length
  have hn := line63
  have fin : EP X pins σ Q w s := ⟨z, H, I, rw', q⟩
  exact subscriptTail_builtinR (x := w) pl.typeIs slot_tuple_getitem.lookup
    (getItem_tuple (j := j) (Q := fun r s' => r = w ∧ EP X pins σ Q r s') pl (by omega) (by omega) (by rw [List.size_toArray, ← hl]; exact h1) (by simpa using ew) ⟨rfl, fin⟩) hs
/-- list, tuple or str -/
def rIx (K : PySem.W.Frag) : R2 := fun x y H Q => rIxL K x y H Q ∨ rIxT K x y H Q ∨ rIxS x y H Q
/-! ### xs[i] = v, any sign -/
/-- the list's object behind a store -/
theorem mapSeq_set (its : List Value) (n j : Nat) (u : Value) : Obj.mapSeq (·.setIfInBounds j u) { cls := .type "list", data := .seq its.toArray n } = { cls := .type "list", data := .seq (its.set j u).toArray n } := by
  simp [Obj.mapSeq]
theorem Inv.lst {pins : List (Addr × Obj)} {σ : St} {H : Hp} {s : Shared} {p : Addr} {xs : List V} (I : Inv X pins σ H s) (h : H p = some (.lst xs)) :
    ∃ (its : List Value) (n : Nat), Vals xs its ∧ s.heap.get? p = some { cls := .type "list", data := .seq its.toArray n } ∧ xs.length ≤ sizeLine := by
  obtain ⟨z, its, n, r, e⟩ := I.hok p _ h
  exact ⟨its, n, r, e, z⟩
/-- the list at p is written by an update of its object -/
theorem Inv.lstUpd {pins : List (Addr × Obj)} {σ : St} {H : Hp} {s : Shared} {p : Addr} {xs ys : List V} {its its' : List Value} {n n' : Nat} {f : Obj → Obj} (I : Inv X pins σ H s) (h : H p = some (.lst xs))
    (ho : s.heap.get? p = some { cls := .type "list", data := .seq its.toArray n }) (hf : f { cls := .type "list", data := .seq its.toArray n } = { cls := .type "list", data := .seq its'.toArray n' }) (r : Vals ys its') (hz : ys.length ≤ sizeLine) (t : Nat) :
    Inv X pins σ (upd H p (.lst ys)) { s with heap := s.heap.update p f, toks := t } := by
  have e : (s.heap.update p f).get? p = some { cls := .type "list", data := .seq its'.toArray n' } := by
    rw [Heap.get?_update_self f ho (by rw [hf] <;> rfl), hf]
  refine I.write (x := p) (e := p) (by rw [h]; trivial) (.inl rfl) (fun b u hb q => (Heap.get?_update_other _ _ (Ne.symm hb)).trans q) ⟨_, e⟩ ?_
  exact ⟨hz, its', n', r, e⟩
def rSetL : V → V → V → Hp → (Hp → Prop) → Prop := fun o i v H Q => ∃ p xs k j, o = .ref p ∧ i = .int k ∧ H p = some (.lst xs) ∧ ixN xs.length k = some j ∧ Q (upd H p (.lst (xs.set j v)))
theorem set_list : PSet X rSetL := by
  intro pins s σ H o i v ov iv u Q I ro ri rv h
  obtain ⟨p, xs, k, j, rfl, rfl, hp, hj, q⟩ := h
  cases ro
  obtain ⟨t, rfl⟩ := ri
  obtain ⟨its, n, r, ho, hz⟩ := I.lst hp
  obtain ⟨h1, h2, h3, h4⟩ := ixN_seq hj
  have hl := r.length
  have hn := line63
  have I' : Inv X pins σ (upd H p (.lst (xs.set j v))) { s with heap := s.heap.update p (Obj.mapSeq (·.setIfInBounds j u)) } :=
    I.lstUpd hp ho (mapSeq_set its n j u) (r.set rv j) (by rw [List.length_set]; exact hz) s.toks
  by_cases h0 : 0 ≤ k
  · have hk : k.toNat = j := by
      rw [seqIndex_of h0 h4] at h1
      exact Option.some.inj h1
    exact PySem.W.ki_setAt ho h0 (by omega) (by rw [List.size_toArray, ← hl]; exact h4) (by rw [hk]; exact ⟨_, I', q⟩)
  · have hk : (k + (its.toArray.size : Int)).toNat = j := by
      rw [seqIndex_neg (by omega) h3] at h1
      rw [List.size_toArray, ← hl]
      exact Option.some.inj h1
    exact PySem.W.ki_setBack ho (by omega) (by rw [List.size_toArray, ← hl]; exact h3) (by omega) (by rw [hk]; exact ⟨_, I', q⟩)

/-! ### slices -/
theorem slice_bounds (lo hi : Option Int) (n : Nat) : (sliceBounds lo hi none n).1 = ((HT.sIx n 0 lo : Nat) : Int) ∧ (sliceBounds lo hi none n).2.1 = ((HT.sIx n n hi : Nat) : Int) ∧ (sliceBounds lo hi none n).2.2 = 1 := by
  refine ⟨?_, ?_, rfl⟩
  · cases lo with
    | none => simp [sliceBounds, HT.sIx]
    | some i =>
      simp only [sliceBounds, HT.sIx, Option.getD_none, show (1 : Int) > 0 by decide, if_true]
      by_cases h : i < 0
      · simp only [h, if_true] <;> omega
      · simp only [h, if_false] <;> omega
  · cases hi with
    | none => simp [sliceBounds, HT.sIx]
    | some i =>
      simp only [sliceBounds, HT.sIx, Option.getD_none, show (1 : Int) > 0 by decide, if_true]
      by_cases h : i < 0
      · simp only [h, if_true] <;> omega
      · simp only [h, if_false] <;> omega
theorem slicePick_cut (its : List Value) (lo hi : Option Int) : slicePick its.toArray lo hi none = ((its.drop (HT.sIx its.length 0 lo)).take (HT.sIx its.length its.length hi - HT.sIx its.length 0 lo)).toArray := by
  obtain ⟨h1, h2, h3⟩ := slice_bounds lo hi its.toArray.size
  unfold slicePick
  rw [h1, h2, h3]
  simp only [sliceRange_one, pick_run, List.size_toArray] <;> rfl
/-- xs[lo:hi] of a list: a new list -/
def rSlL (K : PySem.W.Frag) : V → Option Int → Option Int → Hp → VK → Prop := fun x lo hi H Q => ∃ a xs, x = .ref a ∧ SqL K H a xs ∧ ∀ p, H p = none → Q (.ref p) (upd H p (.lst (cutV xs lo hi)))
theorem sl_list : SlR X (rSlL X.K) := by
  intro pins s σ H x v vl vu lo hi sl Q I rx hs pl pu h
  obtain ⟨a, xs, rfl, hx, q⟩ := h
  cases rx
  obtain ⟨its, r, ht, hz⟩ := I.list hx
  have hlen := r.length
  refine ⟨"list", _, slot_list_getitem.lookup, ht.isList.typeIs, ?_⟩
  refine wpAny_getItem_list_slice ht.isList hs pl pu .none (by simp) ?_ (by rw [List.size_toArray] <;> omega)
  rw [slicePick_cut, ← hlen]
  refine ⟨.ref s.heap.objs.size, _, I.laid (t' := s.toks) (o := .lst (cutV xs lo hi)) (fun b ob q => Heap.get?_push_of_some _ q) (Nat.le_refl _) ?_, rfl, q _ (I.hok.fresh (Nat.le_refl _))⟩
  exact ⟨Nat.le_trans (cutV_length xs lo hi) hz, _, 0, (r.drop (HT.sIx xs.length 0 lo)).take (HT.sIx xs.length xs.length hi - HT.sIx xs.length 0 lo), Heap.get?_push_size _ rfl⟩

/-! ### in, not in: flat items -/
def flatV : V → Bool
  | .non => true
  | .bl _ => true
  | .int _ => true
  | .str _ => true
  | _ => false
/-- == of flat values -/
def eqV : V → V → Bool
  | .non, .non => true
  | .bl a, .bl b => a == b
  | .bl a, .int b => (if a then 1 else 0) == b
  | .int a, .bl b => a == (if b then 1 else 0)
  | .int a, .int b => a == b
  | .str a, .str b => a == b
  | _, _ => false
/-- the items' answers, read off the values (a value's own answer does not lean on its token) -/
def eqU (x : V) (u : Value) : Bool := match u with
  | .none => eqV .non x
  | .bool b => eqV (.bl b) x
  | .int i _ => eqV (.int i) x
  | .str z _ => eqV (.str z) x
  | _ => false
def inV (x : V) (xs : List V) : Bool := xs.any fun y => eqV y x
/-- x in a list or tuple of flat items -/
def rIn (K : PySem.W.Frag) (neg : Bool) : R2 := fun x y H Q => ∃ p xs, y = .ref p ∧ (SqL K H p xs ∨ SqT K H p xs) ∧ flatV x = true ∧ xs.all flatV = true ∧ Q (.bl (if neg then !inV x xs else inV x xs)) H
/-! ### len, list(x), tuple(x) of any list or tuple that is read -/
theorem call_len_seq : CallR X (.builtin "len") (fun xs H Q => ∃ p ys, xs = [.ref p] ∧ (SqL X.K H p ys ∨ SqT X.K H p ys) ∧ Q (.int ys.length) H) := by
  intro pins s σ H xs us Q I r h
  obtain ⟨p, ys, rfl, hq, q⟩ := h
  obtain ⟨u, rfl, rx⟩ := vals1 r
  cases rx
  have hn := line63
  rcases hq with hq | hq
  · obtain ⟨its, r', pl, hz⟩ := I.list hq
    have hlen := r'.length
    exact Calls.call_len_list pl.isList (by simp only [List.size_toArray] <;> omega) ⟨.int ys.length, H, I.tok _, ⟨s.toks + 1, by rw [List.size_toArray, hlen]⟩, q⟩
  · obtain ⟨its, r', pl, hz⟩ := I.tuple hq
    have hlen := r'.length
    exact len_tuple pl (by simp only [List.size_toArray] <;> omega) ⟨.int ys.length, H, I.tok _, ⟨s.toks + 1, by rw [List.size_toArray, hlen]⟩, q⟩
theorem CallR.or {f : Value} {r r' : List V → Hp → VK → Prop} (h : CallR X f r) (h' : CallR X f r') : CallR X f (fun xs H Q => r xs H Q ∨ r' xs H Q) := by
  intro pins s σ H xs us Q I rs q
  rcases q with q | q
  · exact h pins s σ H xs us Q I rs q
  · exact h' pins s σ H xs us Q I rs q
theorem call_list_of : CallR X (.type "list") (fun xs H Q => ∃ p ys, xs = [.ref p] ∧ (SqL X.K H p ys ∨ SqT X.K H p ys) ∧ ∀ l, H l = none → Q (.ref l) (upd H l (.lst ys))) := by
  intro pins s σ H xs us Q I r h
  obtain ⟨p, ys, rfl, hq, q⟩ := h
  obtain ⟨u, rfl, rx⟩ := vals1 r
  cases rx
  have fin : ∀ (its : List Value), Vals ys its → ys.length ≤ sizeLine → ∀ (h' : Heap) (c' : Nat), (∀ b o', s.heap.get? b = some o' → h'.get? b = some o') →
      h'.get? s.heap.objs.size = some { cls := .type "list", dict := none, data := .seq its.toArray c', slots := #[] } → EP X pins σ Q (.ref s.heap.objs.size) { s with heap := h' } := fun its r' hz h' c' kp e =>
    ⟨.ref s.heap.objs.size, _, I.laid (t' := s.toks) kp (Nat.le_refl _) (show ObjOk X.prog X.w _ h' _ (.lst ys) from ⟨hz, its, c', r', e⟩), rfl, q _ (I.hok.fresh (Nat.le_refl _))⟩
  rcases hq with hq | hq
  · obtain ⟨its, r', pl, hz⟩ := I.list hq
    have hlen := r'.length
    obtain ⟨o, ho, hc, n, hd⟩ := pl.isList
    exact call_list_seq p (.inl rfl) ho hc hd (fun h' c' kp e => fin its r' hz h' c' kp e) (by simp only [List.size_toArray] <;> omega)
  · obtain ⟨its, r', pl, hz⟩ := I.tuple hq
    have hlen := r'.length
    obtain ⟨o, ho, hc, n, hd⟩ := pl
    exact call_list_seq p (.inr rfl) ho hc hd (fun h' c' kp e => fin its r' hz h' c' kp e) (by simp only [List.size_toArray] <;> omega)
theorem call_tuple_of : CallR X (.type "tuple") (fun xs H Q => ∃ p ys, xs = [.ref p] ∧ ((SqL X.K H p ys ∧ ∀ l, H l = none → Q (.ref l) (upd H l (.tup ys))) ∨ (SqT X.K H p ys ∧ Q (.ref p) H))) := by
  intro pins s σ H xs us Q I r h
  obtain ⟨p, ys, rfl, h⟩ := h
  obtain ⟨u, rfl, rx⟩ := vals1 r
  cases rx
  rcases h with ⟨hq, q⟩ | ⟨hq, q⟩
  · obtain ⟨its, r', pl, hz⟩ := I.list hq
    have hlen := r'.length
    refine call_tuple_list pl.isList (fun h' kp => ?_) (by simp only [List.size_toArray] <;> omega)
    have I1 : Inv X pins σ H { s with heap := h' } := I.kept (t' := s.toks) kp
    have I2 : Inv X pins σ (upd H h'.objs.size (.tup ys)) { s with heap := h'.push { cls := .type "tuple", data := .seq its.toArray } } :=
      I1.laid (t' := s.toks) (fun b o e => Heap.get?_push_of_some _ e) (Nat.le_refl _) (show ObjOk X.prog X.w _ _ _ (.tup ys) from ⟨hz, its, r', IsTup.new _ _⟩)
    exact ⟨.ref h'.objs.size, _, I2, rfl, q _ (I1.hok.fresh (Nat.le_refl _))⟩
  · obtain ⟨its, r', pl, hz⟩ := I.tuple hq
    exact call_tuple_same pl ⟨.ref p, H, I, rfl, q⟩

/-! ### the call of a builtin's method: o.m(..) -/
/-- the value is of that builtin type -/
def tyV (K : PySem.W.Frag) (T : String) (x : V) (H : Hp) : Prop := match x with
  | .str _ => T = "str"
  | .int _ => T = "int"
  | .ref p => (T = "list" ∧ ∃ xs, SqL K H p xs) ∨ (T = "tuple" ∧ ∃ o, K.lookup p = some o ∧ o.cls = .type "tuple" ∧ o.dict = none) ∨
      (T = "dict" ∧ ((∃ kvs, H p = some (.dK kvs)) ∨ ∃ kvs, H p = some (.dT kvs))) ∨ (T = "set" ∧ ∃ S n, H p = some (.set S n))
  | _ => False
theorem tyV_is {pins : List (Addr × Obj)} {σ : St} {H : Hp} {s : Shared} {T : String} {x : V} {v : Value} (I : Inv X pins σ H s) (r : RelV x v) (ty : tyV X.K T x H) :
    s.TypeIs v T ∧ ∀ a, v = .ref a → ∃ ob, s.heap.get? a = some ob ∧ ob.dict = none := by
  cases x with
  | str z =>
    obtain ⟨t, rfl⟩ := r
    cases (show T = "str" from ty)
    exact ⟨typeIs_str s z t, fun _ e => nomatch e⟩
  | int i =>
    obtain ⟨t, rfl⟩ := r
    cases (show T = "int" from ty)
    exact ⟨typeIs_int s i t, fun _ e => nomatch e⟩
  | ref p =>
    cases r
    rcases ty with ⟨rfl, xs, hq⟩ | ⟨rfl, o, hk, hc, hd⟩ | ⟨rfl, hk⟩ | ⟨rfl, S, n, hk⟩
    · obtain ⟨its, _, pl, _⟩ := I.list hq
      refine ⟨pl.isList.typeIs, fun a e => ?_⟩
      cases e
      obtain ⟨o, n, e, c, hd, _⟩ := pl
      exact ⟨o, e, hd⟩
    · refine ⟨⟨o, I.kIn p o hk, hc⟩, fun a e => ?_⟩
      cases e
      exact ⟨o, I.kIn _ o hk, hd⟩
    · have z : ∃ o, s.heap.get? p = some o ∧ o.ExactDict := by
        rcases hk with ⟨kvs, hk⟩ | ⟨kvs, hk⟩
        · obtain ⟨_, _, _, _, o, _, _, e, ex, _⟩ := I.hok p _ hk
          exact ⟨o, e, ex⟩
        · obtain ⟨_, _, _, _, o, _, _, e, ex, _⟩ := I.hok p _ hk
          exact ⟨o, e, ex⟩
      obtain ⟨o, e, ex⟩ := z
      refine ⟨⟨o, e, ex.1⟩, fun a e2 => ?_⟩
      cases e2
      exact ⟨o, e, ex.2.1⟩
    · obtain ⟨o, _, _, _, e, ex, _⟩ := I.hok p _ hk
      refine ⟨⟨o, e, ex.1⟩, fun a e2 => ?_⟩
      cases e2
      exact ⟨o, e, ex.2.1⟩
  | _ => exact False.elim ty
def tBM0 (K : PySem.W.Frag) (T : String) (r : V → List V → Hp → VK → Prop) (to : TE) : TE := fun σ H Q => to σ H fun x H1 => tyV K T x H1 ∧ r x [] H1 Q
def tBM (K : PySem.W.Frag) (T : String) (r : V → List V → Hp → VK → Prop) (to : TE) (t : TA) : TE := fun σ H Q => to σ H fun x H1 => tyV K T x H1 ∧ t σ H1 fun xs H2 => r x xs H2 Q
variable {o e : Expr} {es : List Expr} {to : TE} {t : TA} {name : Str} {apos cpos : Pos} {T id : String} {r : V → List V → Hp → VK → Prop}
theorem pe_bm0 (pa : PlainAttrs T) (slot : Slot T name id) (hty : typeOf (.builtin id) = pure (.type "method_descriptor")) (hm : MtR X id r) (ho : PE X o to)
    (hbase : attributeBase o name X.env (eval o X.env) = eval o X.env := by rfl) (hline : (apos.endLine == cpos.line) = true := by rfl) : PE X (.Call (.Attribute o name apos) [] [] cpos) (tBM0 X.K T r to) := by
  intro pins s σ H Q I h
  refine wpAny_Call_method0_late hbase hline (thn (ho pins s σ H _ I h) fun v s1 ⟨x, H1, I1, r1, ty, q1⟩ => ?_)
  obtain ⟨h1, h2⟩ := tyV_is I1 r1 ty
  exact ⟨T, id, pa, slot, hty, h1, h2, Calls.callWith_builtin rfl (PySem.evalArgs_none (hm pins s1 σ H1 x [] v [] Q I1 r1 .nil q1))⟩
theorem pe_bm (pa : PlainAttrs T) (slot : Slot T name id) (hty : typeOf (.builtin id) = pure (.type "method_descriptor")) (hm : MtR X id r) (ho : PE X o to) (ha : PA X (e :: es) t)
    (hbase : attributeBase o name X.env (eval o X.env) = eval o X.env := by rfl)
    (hfew : ((backTo cpos (starEach (e :: es) X.env)).all (fun x => !x.1) && (backToKw cpos (keywordEach [] X.env)).all (fun x => x.1.isSome)
      && decide ((e :: es).length + ([] : List Keyword).length + (if ([] : List Keyword).isEmpty then 0 else 1) < 30)) = true := by rfl)
    (hline : (apos.endLine == cpos.line) = true := by rfl) (hs : starEach (e :: es) X.env = (false, eval e X.env) :: starEach es X.env := by rfl) (hplain : (backTo cpos (starEach es X.env)).any (·.1) = false := by rfl) :
    PE X (.Call (.Attribute o name apos) (e :: es) [] cpos) (tBM X.K T r to t) := by
  intro pins s σ H Q I h
  refine wpAny_Call_method_late hbase hfew hline rfl (thn (ho pins s σ H _ I h) fun v s1 ⟨x, H1, I1, r1, ty, q1⟩ => ?_)
  obtain ⟨h1, h2⟩ := tyV_is I1 r1 ty
  refine ⟨T, id, pa, slot, hty, h1, h2, ?_⟩
  have hA := ha cpos pins s1 σ H1 _ I1 q1
  rw [hs] at hA ⊢
  refine Calls.callWith_builtin (by show (false || (backTo cpos (starEach es X.env)).any (·.1)) = false; rw [hplain] <;> rfl) (Calls.evalArgs_plain ?_)
  exact thn hA fun us s2 ⟨vs, H2, I2, r2, q2⟩ => hm pins s2 σ H2 x vs v us Q I2 r1 r2 q2
/- xs.append(e), list.index on a module's tuple .. are MtR facts of 06m -/
end
end L2

namespace L2
open PySem PySem.Spec PyProof.Rows

def MtM (X : Cx) (id : String) (r : V → List V → Hp → VK → Prop) : Prop :=
  ∀ (pins : List (Addr × Obj)) (s : Shared) (σ : St) (H : Hp) (x : V) (xs : List V) (v : Value) (us : List Value) (Q : VK), Inv X pins σ H s → RelV x v → Vals xs us → r x xs H Q →
    wpAny (model X.prog X.w) X.A (call (.builtin id) (v :: us)) (EP X pins σ Q) X.xe s

/-! ### lists of values -/
theorem Vals.one : ∀ {x : V} {us : List Value}, Vals [x] us → ∃ u, us = [u] ∧ RelV x u
  | _, _, .cons r .nil => ⟨_, rfl, r⟩
theorem Vals.two : ∀ {x y : V} {us : List Value}, Vals [x, y] us → ∃ u v, us = [u, v] ∧ RelV x u ∧ RelV y v
  | _, _, _, .cons r (.cons q .nil) => ⟨_, _, rfl, r, q⟩
theorem Vals.zero : ∀ {us : List Value}, Vals [] us → us = []
  | _, .nil => rfl
theorem Vals.dropLast {xs : List V} {us : List Value} (h : Vals xs us) : Vals xs.dropLast us.dropLast := by
  induction h with
  | nil => exact .nil
  | cons r t ih =>
    cases t with
    | nil => exact .nil
    | cons q t' => exact .cons r ih
theorem Vals.eraseIdx : ∀ {xs : List V} {us : List Value} (i : Nat), Vals xs us → Vals (xs.eraseIdx i) (us.eraseIdx i)
  | _, _, _, .nil => .nil
  | _, _, 0, .cons _ t => t
  | _, _, i + 1, .cons r t => .cons r (Vals.eraseIdx i t)
theorem Vals.reverse {xs : List V} {us : List Value} (h : Vals xs us) : Vals xs.reverse us.reverse := by
  induction h with
  | nil => exact .nil
  | cons r t ih => rw [List.reverse_cons, List.reverse_cons]; exact Vals.append ih (.cons r .nil)
section
variable {X : Cx} {pins : List (Addr × Obj)} {σ : St} {H : Hp} {s : Shared} {l b : Addr} {xs ys zs : List V}

/-! ### the two steps: a tracked list is rewritten, a new list is laid -/
theorem Inv.lset {its its' : List Value} {n : Nat} {f : Array Value → Array Value} {t' : Nat} (I : Inv X pins σ H s) (hH : H l = some (.lst xs))
    (e : s.heap.get? l = some { cls := .type "list", data := .seq its.toArray n }) (hf : f its.toArray = its'.toArray) (hv : Vals ys its') (hz : ys.length ≤ sizeLine) :
    Inv X pins σ (upd H l (.lst ys)) { s with heap := s.heap.update l (Obj.mapSeq f), toks := t' } := by
  have q := PySem.IsL.update e f
  rw [hf] at q
  refine I.write (x := l) (e := l) (by rw [hH]; exact trivial) (.inl rfl) (fun b' u hb hu => (Heap.get?_update_other s.heap (Obj.mapSeq f) (Ne.symm hb)).trans hu) ⟨_, q⟩ ?_
  exact ⟨hz, its', _, hv, q⟩
theorem Inv.lnew {its : List Value} {t' : Nat} (I : Inv X pins σ H s) (hv : Vals ys its) (hz : ys.length ≤ sizeLine) :
    Inv X pins σ (upd H s.heap.objs.size (.lst ys)) { s with heap := s.heap.push { cls := .type "list", data := .seq its.toArray }, toks := t' } :=
  I.laid (fun _ _ q => Heap.get?_push_of_some _ q) (Nat.le_refl _) ⟨hz, its, 0, hv, Heap.get?_push_size _ rfl⟩
theorem Inv.fresh (I : Inv X pins σ H s) : H s.heap.objs.size = none := I.hok.fresh (Nat.le_refl _)
theorem Inv.lstM (I : Inv X pins σ H s) (hH : H l = some (.lst xs)) : xs.length ≤ sizeLine ∧ ∃ (its : List Value) (n : Nat), Vals xs its ∧ xs.length = its.length ∧ s.heap.get? l = some { cls := .type "list", data := .seq its.toArray n } := by
  obtain ⟨z, its, n, r, e⟩ := I.hok l _ hH
  exact ⟨z, its, n, r, r.length, e⟩

end

section
variable {X : Cx}

/-! ### methods -/
def rAppend : V → List V → Hp → VK → Prop := fun x vs H Q => ∃ l xs y, x = .ref l ∧ vs = [y] ∧ H l = some (.lst xs) ∧ xs.length < sizeLine ∧ Q .non (upd H l (.lst (xs ++ [y])))
theorem mt_append : MtM X "list.append" rAppend := by
  intro pins s σ H x vs v us Q I rx rv h
  obtain ⟨l, xs, y, rfl, rfl, hH, hz, q⟩ := h
  cases rx
  obtain ⟨u, rfl, ru⟩ := rv.one
  obtain ⟨z, its, n, r, hl, e⟩ := I.lstM hH
  refine call_meets F.slot_list_append ⟨_, e, rfl⟩ F.entry_list_append (F.args_list_append_2 _ _) (PySem.list_append l its.toArray n u (by rw [List.size_toArray]; omega)) ⟨e, ?_⟩
  refine ⟨.non, _, I.lset (its' := its ++ [u]) hH e (by simp) (r.append (.cons ru .nil)) ?_, rfl, q⟩
  rw [List.length_append, List.length_singleton]
  omega

def rExtend : V → List V → Hp → VK → Prop := fun x vs H Q => ∃ l b xs zs, x = .ref l ∧ vs = [.ref b] ∧ H l = some (.lst xs) ∧ H b = some (.lst zs) ∧ xs.length + zs.length ≤ sizeLine ∧ Q .non (upd H l (.lst (xs ++ zs)))
def rPop : V → List V → Hp → VK → Prop := fun x vs H Q => ∃ l xs y, x = .ref l ∧ vs = [] ∧ H l = some (.lst xs) ∧ xs[xs.length - 1]? = some y ∧ Q y (upd H l (.lst xs.dropLast))
def rPopAt : V → List V → Hp → VK → Prop := fun x vs H Q => ∃ l xs i k y, x = .ref l ∧ vs = [.int i] ∧ H l = some (.lst xs) ∧ -(2 ^ 63) ≤ i ∧ i < 2 ^ 63 ∧ seqIndex? i xs.length = some k ∧ xs[k]? = some y ∧ Q y (upd H l (.lst (xs.eraseIdx k)))
def rReverse : V → List V → Hp → VK → Prop := fun x vs H Q => ∃ l xs, x = .ref l ∧ vs = [] ∧ H l = some (.lst xs) ∧ Q .non (upd H l (.lst xs.reverse))
def rClear : V → List V → Hp → VK → Prop := fun x vs H Q => ∃ l xs, x = .ref l ∧ vs = [] ∧ H l = some (.lst xs) ∧ Q .non (upd H l (.lst []))
/-! ### list + list, list += list, list * int -/
def rCat : R2 := fun x y H Q => ∃ l b xs zs, x = .ref l ∧ y = .ref b ∧ H l = some (.lst xs) ∧ H b = some (.lst zs) ∧ xs.length + zs.length ≤ sizeLine ∧ ∀ p, H p = none → Q (.ref p) (upd H p (.lst (xs ++ zs)))
theorem op_cat : OpR X (binaryOp .Add) rCat := by
  intro pins s σ H x y v u Q I rx ry h
  obtain ⟨l, b, xs, zs, rfl, rfl, hH, hB, hz, q⟩ := h
  cases rx
  cases ry
  obtain ⟨z, its, n, r, hl, e⟩ := I.lstM hH
  obtain ⟨z2, its2, n2, r2, hl2, e2⟩ := I.lstM hB
  refine PySem.P.add_list e e2 ?_ (by rw [List.size_toArray, List.size_toArray]; omega)
  have ea : its.toArray ++ its2.toArray = (its ++ its2).toArray := by simp
  rw [ea]
  exact ⟨.ref _, _, I.lnew (t' := s.toks) (r.append r2) (by rw [List.length_append]; omega), rfl, q _ I.fresh⟩
/-- a list times an int (a negative one is nothing) -/
def rRep : R2 := fun x y H Q => ∃ l k xs, x = .ref l ∧ y = .int k ∧ H l = some (.lst xs) ∧ -(2 ^ 63) ≤ k ∧ k < 2 ^ 63 ∧ xs.length * k.toNat ≤ sizeLine ∧
  ∀ p, H p = none → Q (.ref p) (upd H p (.lst (List.replicate k.toNat xs).flatten))
/-! ### del xs[i] -/
end

/-! ### xs[a:b] = ys -/
section
variable {prog : Program} {w : World} {A : Around} {E : Value → Shared → Prop} {s : Shared}
end

section
variable {X : Cx}
end
end L2

namespace Att
open PySem PySem.W PySem.Calls PyProof.Rows

/-! ### the script -/
theorem ints_of_wellAll {P : Params} {h : Heap} : ∀ (ns : List Int) (vs : List Value), WellAll P h vs (ns.map WData.int) → IntsAre vs ns := by
  intro ns
  induction ns with
  | nil =>
    intro vs w
    rw [List.map_nil] at w
    cases w
    exact .nil
  | cons n ns ih =>
    intro vs w
    rw [List.map_cons] at w
    cases w with
    | cons a b =>
      cases a
      exact .cons _ _ (ih _ b)

theorem script_of {l : OpenLaw} {n : Nat} (hn : l.most = some n) {P : Params} {h : Heap} {args : List WData} {vals : List Value}
    (hpre : l.row.toRowW.claim.pre args = true) (hwl : WellAll P h vals args) :
    ∃ a vs ns, vals = [Value.ref a] ∧ args = [WData.list (ns.map WData.int)] ∧ h.get? a = some { cls := .type "list", data := .seq vs.toArray } ∧ IntsAre vs ns ∧ ns.length ≤ n := by
  have hsh : WShape.hasAll [] args [.list .int] = true := (pre_splitW hpre).1
  have hc : l.pre.holds [] { args := args } = true := (pre_splitW hpre).2
  obtain ⟨d, r, rfl, h1, h2⟩ := hasAllW_cons hsh
  obtain rfl := hasAllW_nil h2
  obtain ⟨xs, rfl, h3⟩ := hasW_list h1
  obtain ⟨ns, rfl⟩ := items_int h3
  have hlen : ns.length ≤ n := by
    unfold OpenLaw.pre at hc
    have h4 : (WTm.not (.lt (.lit (.int (n : Int))) (.len (.arg 0)))).holds [] { args := [.list (ns.map .int)] } = true := by
      have h4 := (holds_andW hc).1
      rw [hn] at h4
      exact h4
    have h5 := condW_of h4 (w_not (w_lt w_lit (w_len_list (w_arg rfl))))
    rw [List.length_map] at h5
    refine Nat.le_of_not_lt fun q => ?_
    have q' : (n : Int) < ((ns.length : Nat) : Int) := by omega
    first
      | (rw [decide_eq_true q'] at h5; exact absurd h5 (by decide))
      | (simp at h5; omega)
  cases hwl with
  | cons w1 w2 =>
    cases w2
    cases w1 with
    | list ho hall => exact ⟨_, _, ns, rfl, rfl, ho, ints_of_wellAll ns _ hall, hlen⟩

theorem post_true (l : OpenLaw) (args : List WData) : l.row.toRowW.claim.post args (.bool true) args = true :=
  postW_of (r := l.row.toRowW) (X := (true == true))
    (show WShape.has [] (.bool true) .bool = true by first | rfl | decide | simp [WShape.has, WShape.arms, WShape.armsAll])
    (show (WTm.eq .res (.lit (.bool true))).value [] { args := args, res := some (.bool true), after := args } = some (.bool (true == true)) from w_eq_bool (w_res rfl) w_lit) rfl

/-! ### the attachment: holds_open's last premise (the goal 'hc' behind k_head) from a wpAny of the law's body -/
/-- the same from a codeAny of the CALL (for a layer whose function contracts speak of calls) -/
theorem attach_call {l : OpenLaw} {n : Nat} {q : Program} {loose : List Str} {XP : (Str → Option Value) → Heap → Prop} {YP : World → Heap → Prop} {d : DefRec}
    (hn : l.most = some n) (hdf : d.params.defaults = [])
    (call : ∀ (w : World) (s₀ s₁ : Shared) (mg mb : Str → Option Value) (fa : Addr) (o : Obj) (pm cd doc : Value) (a : Addr) (vs : List Value) (ns : List Int),
      Ground q loose [] XP w s₀ mg mb s₁.heap → YP w s₁.heap →
      s₁.heap.get? fa = some o → o.data = .func (docDef d.name d.params d.body d.scope pm cd doc) → s₁.heap.CodeRec cd d.name → mg d.name = some (.ref fa) →
      s₁.heap.get? a = some { cls := .type "list", data := .seq vs.toArray } → IntsAre vs ns → ns.length ≤ n → s₁.gens = #[] →
      codeAny (model l.prog w) callerA (.call (.ref fa) ⟨[.ref a], []⟩) (fun r s' => r = .ok (.ret (.bool true)) ∧ OldK s₁.heap s'.heap ∧ s'.os = s₁.os ∧ AllBare s'.gens) s₁) :
    WalkO q loose XP YP l.row.toRowW d [] (fun f vs => PySem.call f vs) := by
  intro w s₀ s₁ mg mb G Y fa o pm cd doc dV kV ho hd hcd hD hmg hg args vals as hpre hlay hrd hwl hlo
  obtain rfl : dV = .none := Dflts.none hD hdf
  obtain rfl : kV = .none := Dflts.noKw hD
  obtain ⟨a, vs, ns, rfl, rfl, hobj, hints, hlen⟩ := script_of hn hpre hwl
  refine enter_call (codeAny_mono (call w s₀ s₁ mg mb fa o pm cd doc a vs ns G Y ho (fd_plain hd) hcd hmg hobj hints hlen hg) fun r s' hq => ?_)
  obtain ⟨rfl, h2, h3, h4⟩ := hq
  exact ⟨.inl ⟨.bool true, .bool true, [], rfl, fun _ => rfl, .bool true, post_true l _, fun _ => ⟨List.Pairwise.nil, fun _ hm => (nomatch hm)⟩⟩, h2, h3, h4⟩

/-! ### rules over ANY heap (no ledger) from facts about the written part K: the library's own take a ledger (News) for what they write -/
section
variable {prog : Program} {w : World} {A : Around} {E : Value → Shared → Prop} {s : Shared} {K : Frag}

/-! the whole heap as the ledger: makes every rule that writes through a ledger a rule over any heap -/
def noObjs (h : Heap) : Heap := { h with objs := #[] }
def ledger (h : Heap) (L d : Addr) : List (Addr × Obj) := (List.range h.objs.size).filterMap fun a => if a = L ∨ a = d then none else (h.get? a).map fun o => (a, o)
end
end Att

namespace L2
open PySem PySem.Spec PyProof.Rows

theorem vals_ints : ∀ {vs : List Value} {ns : List Int}, IntsAre vs ns → Vals (ns.map V.int) vs
  | _, _, .nil => .nil
  | _, _, .cons n t h => .cons ⟨t, rfl⟩ (vals_ints h)

/-- nothing is tracked but the script, known to the object (or it is an object of the module) -/
def Only (H : Hp) : Prop := ∀ b, H b = none ∨ ∃ o xs, H b = some (.frz o (.lst xs))

/-- THE HEAD: the law's promise, at the heap behind the top. F, the promise of the law's def, may use that base is part of the heap (so K.In base, base.Ns mainGlobals mg stand in Mod) -/
theorem law_call {P : Program} {w : World} {K : PySem.W.Frag} {mg mb : Str → Option Value} {CX : CXT} {k : Nat} {fa a : Addr} {fd : FuncData} {x : Str} {sp : Sp} {s₁ : Shared} {vs : List Value} {ns : List Int}
    (KX : K.In s₁.heap) (hns : s₁.heap.Ns mainGlobals mg) (hb : s₁.heap.Ns builtinsNs mb) (hbb : ∀ x : Str, x ≠ "__name__" → mb x = bootBuiltins x) (hlim : s₁.heap.NoLimit) (hg : s₁.gens = #[])
    (ha : s₁.heap.get? a = some { cls := .type "list", data := .seq vs.toArray }) (hi : IntsAre vs ns) (hl : ns.length ≤ sizeLine) (hr : Room k callerA)
    (F : ∀ base : Heap, K.In base → base.Ns mainGlobals mg → FnOk P w K mg base CX k fa fd [x] sp) (hbind : ∀ (s : Shared) (u : Value), BindsTo s fd ⟨[u], []⟩ [(x, u)])
    (hsp : ∀ H : Hp, Only H → SqL K H a (ns.map V.int) → sp [.ref a] H (fun v _ => v = .bl true) fun _ _ _ => False)
    (hCX : ∀ H e s', CX [] H s₁ (fun _ _ _ => False) e s' → False) :
    codeAny (model P w) callerA (.call (.ref fa) ⟨[.ref a], []⟩) (fun r s' => r = .ok (.ret (.bool true)) ∧ OldK s₁.heap s'.heap ∧ s'.os = s₁.os ∧ AllBare s'.gens) s₁ := by
  have rv := vals_ints hi
  have lenV := hi.length
  -- from an abstract heap in which nothing but the script may be tracked
  have core : ∀ H : Hp, Only H → SqL K H a (ns.map V.int) → HOk P w H s₁.heap → (∀ b, H b ≠ none → b = a) → (H a ≠ none → K.lookup a = none) →
      codeAny (model P w) callerA (.call (.ref fa) ⟨[.ref a], []⟩) (fun r s' => r = .ok (.ret (.bool true)) ∧ OldK s₁.heap s'.heap ∧ s'.os = s₁.os ∧ AllBare s'.gens) s₁ := by
    intro H hO hS hok hA hK
    have base_of : ∀ {b : Addr} {o : Obj}, s₁.heap.get? b = some o → H b = none → (hidT s₁.heap H).get? b = some o := fun e n => hidT_get e n
    have noA : ∀ {b : Addr} {o : Obj} {es : Array DictEntry} {ep : Nat}, s₁.heap.get? b = some o → o.data = .dict es ep → H b = none := fun {b o es ep} e d => by
      cases q : H b with
      | none => rfl
      | some u =>
        have e' : b = a := hA b (by rw [q]; simp)
        subst e'
        rw [ha] at e; cases e
        have d' : Data.seq vs.toArray _ = Data.dict es ep := d
        cases d'
    have nsK : ∀ {b : Addr} {m : Str → Option Value}, s₁.heap.Ns b m → (hidT s₁.heap H).Ns b m := fun {b m} ⟨o, es, ep, e, d, r⟩ => ⟨o, es, ep, base_of e (noA e d), d, r⟩
    have hKb : K.In (hidT s₁.heap H) := fun b o e => base_of (KX b o e) (by
      cases q : H b with
      | none => rfl
      | some u =>
        have e' : b = a := hA b (by rw [q]; simp)
        subst e'
        rw [hK (by rw [q]; simp)] at e; cases e)
    have hM : Mod K mg (hidT s₁.heap H) := ⟨hKb, nsK hns, ⟨mb, nsK hb, hbb⟩, let ⟨mc, h1, h2⟩ := hlim; ⟨mc, nsK h1, h2⟩⟩
    have e0 : Env0 P w K mg (hidT s₁.heap H) callerA [] s₁ H := ⟨rfl, hM, fun b o e => of_hidT e, Nat.le_of_eq (hidT_size _ _), trivial, fun b hb => absurd (show b ∈ ([] : List Addr) from hb) (by simp), hok, .of_eq hg⟩
    refine codeAny_mono ((F _ hKb (nsK hns)).run callerA [] s₁ H ⟨[.ref a], []⟩ [.ref a] [.ref a] _ _ hr e0 (hbind s₁ (.ref a)) (.cons rfl .nil) (hsp H hO hS)) fun r s' h => ?_
    cases r with
    | error e => exact (hCX H e s' h).elim
    | ok fl =>
      cases fl with
      | next => exact False.elim h
      | brk => exact False.elim h
      | cont => exact False.elim h
      | ret u =>
        obtain ⟨v, H', os, bare, un, hok', r', q⟩ := h
        have q' : v = .bl true := q
        subst q'
        obtain rfl : u = Value.bool true := r'
        refine ⟨rfl, OldK.of_keep fun b o e => ?_, os, bare⟩
        cases q : H b with
        | none => exact un.keep b o e q (by intro z; exact absurd (show b ∈ ([] : List Addr) from z) (by simp)) (by simp)
        | some u =>
          rcases hO b with z | ⟨ob, xs, z⟩
          · rw [q] at z; cases z
          · have z2 := un.frzs b ob _ z
            obtain ⟨e1, _⟩ := hok b _ z
            obtain ⟨e2, _⟩ := hok' b _ z2
            rw [e] at e1; cases e1
            exact e2
  cases hk : K.lookup a with
  | some o =>
    -- the script is one of the module's own objects
    have e := KX a o hk
    rw [ha] at e
    cases e
    refine core (fun _ => none) (fun _ => .inl rfl) (.inr ⟨_, vs.toArray, _, hk, rfl, rfl, rfl, by rw [List.size_toArray, lenV]; exact hl, by simpa using rv⟩) (fun b u z => by have z' : (none : Option HO) = some u := z; cases z') (fun b z => absurd rfl z) fun z => absurd rfl z
  | none =>
    refine core (fun b => if b = a then some (.frz { cls := .type "list", data := .seq vs.toArray } (.lst (ns.map V.int))) else none) (fun b => ?_) (.inl (.inr ⟨{ cls := .type "list", data := .seq vs.toArray }, if_pos rfl⟩)) (fun b u z => ?_) (fun b z => ?_) fun _ => hk
    · by_cases hb : b = a
      · exact .inr ⟨_, _, if_pos hb⟩
      · exact .inl (if_neg hb)
    · by_cases hb : b = a
      · have z' := (if_pos hb).symm.trans z
        cases z'
        subst hb
        exact ⟨ha, by rw [List.length_map]; exact hl, vs, _, rv, ha⟩
      · have z' := (if_neg hb).symm.trans z
        cases z'
    · by_cases hb : b = a
      · exact hb
      · exact absurd (if_neg hb) z
end L2

namespace L2
open PySem PySem.Spec PyProof.Rows

abbrev KOf {K : PySem.W.Frag} {h : Heap} (_ : K.In h) : PySem.W.Frag := K

/-- the goal that k_head leaves (case hc), from the law's promise. F gives the function object fd (K's own) once, then the promise over every base -/
theorem walk_of {l : PySem.W.OpenLaw} {n k : Nat} {q : Program} {loose : List Str} {XP : (Str → Option Value) → Heap → Prop} {YP : World → Heap → Prop} {d : DefRec} {K : Params → PySem.W.Frag} {CX : World → CXT} {sp : World → Sp} {x : Str}
    (hn : l.most = some n) (hn2 : n ≤ sizeLine) (hdf : d.params.defaults = []) (hr : Room k callerA)
    (hY : ∀ (w : World) (h : Heap), YP w h → (K w.params).In h)
    (F : ∀ (w : World) (mg : Str → Option Value) (fa : Addr) (h : Heap), (K w.params).In h → h.Ns mainGlobals mg → mg d.name = some (.ref fa) →
      ∃ fd : FuncData, (∀ (s : Shared) (u : Value), BindsTo s fd ⟨[u], []⟩ [(x, u)]) ∧
        ∀ base : Heap, (K w.params).In base → base.Ns mainGlobals mg → FnOk l.prog w (K w.params) mg base (CX w) k fa fd [x] (sp w))
    (hsp : ∀ (w : World) (H : Hp) (a : Addr) (ns : List Int), ns.length ≤ n → Only H → SqL (K w.params) H a (ns.map V.int) → sp w [.ref a] H (fun v _ => v = .bl true) fun _ _ _ => False)
    (hCX : ∀ (w : World) (H : Hp) (s : Shared) (e : Value) (s' : Shared), CX w [] H s (fun _ _ _ => False) e s' → False) :
    PySem.W.WalkO q loose XP YP l.row.toRowW d [] (fun f vs => PySem.call f vs) := by
  refine Att.attach_call hn hdf fun w s₀ s₁ mg mb fa o pm cd doc a vs ns G Y ho hd hcd hmg hobj hints hlen hg => ?_
  have KX := hY w _ Y
  obtain ⟨fd, hb, hF⟩ := F w mg fa _ KX G.T.g hmg
  exact law_call KX G.T.g G.T.b G.T.builtins G.T.nolimit hg hobj hints (Nat.le_trans hlen hn2) hr hF hb (fun H hO hS => hsp w H a ns hlen hO hS) fun H e s' => hCX w H s₁ e s'
end L2

/-! SHORT WORDS over the layer: a def of the text, its body, what a loop and a test want. -/
namespace L2
open PySem PySem.Spec PyProof.Rows

/-! ### the text by places -/
/-- the j-th statement of a class's body -/
def inClass (s : Stmt) (j : Nat) : Stmt := match s with
  | .ClassDef _ _ _ body _ _ _ _ _ _ _ => body.getD j (.Pass ⟨0, 0, 0, 0⟩)
  | _ => .Pass ⟨0, 0, 0, 0⟩
def defArgs (s : Stmt) : Arguments := match s with
  | .FunctionDef _ a _ _ _ _ _ _ _ _ => a
  | _ => { posonlyargs := [], args := [], vararg := none, kwonlyargs := [], kw_defaults := [], kwarg := none, defaults := [] }
def defBody (s : Stmt) : List Stmt := match s with
  | .FunctionDef _ _ b _ _ _ _ _ _ _ => b
  | _ => []
def defScope (s : Stmt) : Scope := match s with
  | .FunctionDef _ _ _ _ _ _ sc _ _ _ => sc
  | _ => { kind := .function, names := [], isGenerator := false, isCoroutine := false }

/-! ### no exception leaves a def -/
abbrev CX0 : CXT := fun _ _ _ _ _ _ => False
abbrev E0 : XK := fun _ _ _ => False
theorem pass0 {X : Cx} : Passes CX0 X E0 := fun _ _ _ _ _ _ _ h => h.elim

/-! ### a def (or method) of the text as it stands behind the top -/
structure Fun (K : PySem.W.Frag) (x qual : Str) (st : Stmt) (f : Addr) (fd : FuncData) : Prop where
  ex : ∃ (oc : Value) (od : Option Addr) (kV doc pm : Value) (an : Option Addr) (cdv ct : Value) (osl : Array (Option Value)),
    fd = PySem.W.fnOf x qual (defArgs st) (defBody st) (defScope st) .none kV doc pm an cdv ct ∧ K.lookup f = some ⟨oc, od, .func fd, osl⟩ ∧ PySem.W.codeIn K cdv qual = true
  kp : PySem.W.keepIn K (.ref f) = true
section
variable {P : Program} {w : World} {K : PySem.W.Frag} {mg : Str → Option Value} {base : Heap}
/-- THE RULE for a def: its body as a term of rules, and the reading of that term -/
theorem Fun.ok {x qual : Str} {st : Stmt} {f : Addr} {fd : FuncData} {N ps : List Str} {k : Nat} {sp : Sp} (F : Fun K x qual st f fd) (S : FnScope N ps (defScope st)) (len : ∀ vs H Q E, sp vs H Q E → vs.length = ps.length)
    (hbody : ∀ (cdv : Value) (A : Around) (outer : List Env) (s : Shared) (H : Hp) (vs : List V) (Q : VK) (E : XK), Room k (A.deeper (envOfC qual (defScope st) s.heap.objs.size f cdv)) → sp vs H Q E →
      ∃ t, PSs (cxOf CX0 P w K mg base N qual (defScope st) f cdv A outer s H E).nox (defBody st) t ∧ t { nx := fun _ H' => Q .non H', rt := Q } (start N vs) H) : FnOk P w K mg base CX0 (k + 1) f fd ps sp := by
  obtain ⟨oc, od, kV, doc, pm, an, cdv, ct, osl, rfl, lk, hcd⟩ := F.ex
  refine fn_of lk hcd S len fun A outer s H vs Q E hr hsp => ?_
  obtain ⟨t, h, q⟩ := hbody cdv A outer s H vs Q E hr hsp
  exact ⟨t, h.nox, q⟩
/-- how its arguments bind (no defaults): h is «fun _ _ _ _ _ _ us hl => match us, hl with | [_, _], _ => rfl», one _ a parameter -/
theorem Fun.binds {x qual : Str} {st : Stmt} {f : Addr} {fd : FuncData} {ps : List Str} (F : Fun K x qual st f fd)
    (h : ∀ (kV doc pm : Value) (an : Option Addr) (cdv ct : Value) (us : List Value), us.length = ps.length → bindArgs (PySem.W.fnOf x qual (defArgs st) (defBody st) (defScope st) .none kV doc pm an cdv ct) ⟨us, []⟩ = pure (ps.zip us)) : Binds K fd ps [] := by
  obtain ⟨oc, od, kV, doc, pm, an, cdv, ct, osl, rfl, lk, hcd⟩ := F.ex
  exact .all (h kV doc pm an cdv ct)
end
theorem small1000 {n : Nat} (h : n ≤ 1000) : n < sizeLine := Nat.lt_of_le_of_lt h (by decide)

/-! ### expressions in short: the name that stands in the i-th slot -/
section
variable {X : Cx}
theorem pv (i : Nat) {x : Str} {pos : Pos} (hN : X.N[i]? = some x := by rfl) (hv : Vis X.env.scope x := by first | exact Or.inl rfl | exact Or.inr (Or.inl rfl) | exact Or.inr (Or.inr rfl)) (hd : (x == ("__debug__" : Str)) = false := by decide)
    (hcd : (x == ("__classdict__" : Str)) = false := by decide) : PE X (.Name x pos) (tVar i) := pe_var hN hv hd hcd
end

/-! ### tests -/
theorem ite2 {c A B : Prop} [Decidable c] (h1 : c → A) (h2 : ¬ c → B) : if c then A else B := by
  by_cases h : c
  · rw [if_pos h]
    exact h1 h
  · rw [if_neg h]
    exact h2 h
/-! ### heaps -/
/-- all that was tracked is as it was -/
def Same (H H' : Hp) : Prop := ∀ b o, H b = some o → H' b = some o
theorem Same.refl (H : Hp) : Same H H := fun _ _ h => h
theorem Same.trans {H H1 H2 : Hp} (a : Same H H1) (b : Same H1 H2) : Same H H2 := fun c o h => b c o (a c o h)
theorem Same.free {H H' : Hp} (e : Same H H') {l : Addr} (h : H' l = Option.none) : H l = Option.none := by
  cases q : H l with
  | none => rfl
  | some o =>
    rw [e l o q] at h
    cases h
theorem Same.seq {K : PySem.W.Frag} {H H' : Hp} {a : Addr} {xs : List V} (e : Same H H') (h : SqL K H a xs) : SqL K H' a xs := by
  rcases h with (h | ⟨o, h⟩) | h
  · exact .inl (.inl (e _ _ h))
  · exact .inl (.inr ⟨o, e _ _ h⟩)
  · exact .inr h

end L2

/-! EXTENSION A of the hand layer: list comprehensions. -/
namespace L2
open PySem PySem.Spec PyProof.Rows

section
variable {prog : Program} {w : World} {A : Around} {R : Result → Shared → Prop} {s : Shared}
theorem compLoop_any {elt target iter : Expr} {ifs : List Expr} {scope : Scope} {pos : Pos} {it acc : Value} {env : Env} (I : Nat → Shared → Prop)
    (turn : ∀ n s, I n s → wpAny (model prog w) A (pyNext it) (fun r s₁ => match r with
      | none => R (.ok .next) s₁
      | some v => wpAny (model prog w) A (letOwnedTupleGo target it v) (fun _ s₁' => wpAny (model prog w) A (assign target env v) (fun _ s₂ =>
          wpAny (model prog w) A (forIn ifs true fun c r => if r = true then do let ok ← isTrue c env (eval c env); pure (ForInStep.yield ok) else pure (ForInStep.yield r)) (fun ok s₃ =>
            if ok = true then wpAny (model prog w) A (eval elt env) (fun x s₄ =>
              wpAny (model prog w) A (call (.builtin "list.append") [acc, x]) (fun _ s₅ => ∃ m, m < n ∧ I m s₅) (notedBy (model prog w) A env fun e s' => R (.error e) s') s₄) (notedBy (model prog w) A env fun e s' => R (.error e) s') s₃
            else ∃ m, m < n ∧ I m s₃) (notedBy (model prog w) A env fun e s' => R (.error e) s') s₂) (notedBy (model prog w) A env fun e s' => R (.error e) s') s₁') (notedBy (model prog w) A env fun e s' => R (.error e) s') s₁) (notedBy (model prog w) A env fun e s' => R (.error e) s') s)
    (n : Nat) (h : I n s) :
    codeAny (model prog w) A (.compLoop (.ListComp elt [⟨target, iter, ifs, 0⟩] scope pos) 0 it acc env) R s := by
  refine codeAny_loop rfl I (fun n s hI => ?_) n h
  show wpAny _ A ((compTurn (.ListComp elt [⟨target, iter, ifs, 0⟩] scope pos) 0 it acc env).onRaise (fun x => do noteFrame x env; theTreesLotGoes x)) _ _ s
  refine wpAny_noted ?_
  rw [compTurn_list]
  refine wpAny_bind (wpAny_standAt (wpAny_bind (wpAny_mono (turn n s hI) (fun r s₁ h₁ => ?_) fun _ _ h' => h')))
  cases r with
  | none => exact wpAny_pure h₁
  | some v =>
    refine wpAny_bind (wpAny_mono h₁ (fun _ s₁' h₁' => ?_) fun _ _ h' => h')
    refine wpAny_bind (wpAny_mono h₁' (fun _ s₂ h₂ => wpAny_bind (wpAny_mono h₂ (fun ok s₃ h₃ => ?_) fun _ _ h' => h')) fun _ _ h' => h')
    cases ok with
    | false => exact wpAny_pure ⟨rfl, h₃⟩
    | true =>
      exact wpAny_bind (wpAny_bind (wpAny_mono h₃ (fun x s₄ h₄ => wpAny_bind (wpAny_mono h₄ (fun _ s₅ h₅ => wpAny_pure (wpAny_pure ⟨rfl, h₅⟩)) fun _ _ h' => h')) fun _ _ h' => h'))
end

/-! ### the closure -/
theorem closure_go {env : Env} : ∀ (names : List (Str × NameKind)) (cs : List (Str × Addr)), (∀ y ∈ names, y.2 = .free → ∃ c, env.cells.lookup y.1 = some c) →
    (∀ y c, cs.lookup y = some c → env.cells.lookup y = some c) →
    ∃ cl : List (Str × Addr), (forIn (m := Sem) names cs fun x r => do
        if (x.2 == NameKind.free) = true then do
          let a ← cellOf env x.1
          pure (ForInStep.yield ((x.1, a) :: r))
        else pure (ForInStep.yield r)) = pure cl ∧ (∀ y c, cl.lookup y = some c → env.cells.lookup y = some c) ∧
      (∀ y, ((y, NameKind.free) ∈ names ∨ ∃ c, cs.lookup y = some c) → ∃ c, cl.lookup y = some c)
  | [], cs, _, hc => ⟨cs, rfl, hc, fun y h => h.elim (fun z => nomatch z) id⟩
  | (n, k) :: r, cs, hn, hc => by
    by_cases hk : k = .free
    · subst hk
      obtain ⟨c, e⟩ := hn (n, .free) List.mem_cons_self rfl
      have hc' : ∀ y d, ((n, c) :: cs).lookup y = some d → env.cells.lookup y = some d := fun y d q => by
        rw [List.lookup_cons] at q
        cases z : y == n with
        | true =>
          rw [z] at q
          have := beq_iff_eq.mp z
          subst this
          cases q
          exact e
        | false => rw [z] at q; exact hc y d q
      obtain ⟨cl, h1, h2, h3⟩ := closure_go r ((n, c) :: cs) (fun y hy => hn y (List.mem_cons_of_mem _ hy)) hc'
      refine ⟨cl, ?_, h2, fun y hy => h3 y ?_⟩
      · rw [List.forIn_cons]
        have ec : cellOf env n = pure c := by unfold cellOf; rw [e]
        show ((if (NameKind.free == NameKind.free) = true then _ else _) >>= _) = _
        rw [if_pos (by rfl)]
        show ((cellOf env n >>= _) >>= _) = _
        rw [ec]
        exact h1
      · rcases hy with hy | ⟨d, hy⟩
        · rcases List.mem_cons.mp hy with z | z
          · cases z
            exact .inr ⟨c, by rw [List.lookup_cons, beq_self_eq_true]⟩
          · exact .inl z
        · refine .inr ?_
          rw [List.lookup_cons]
          cases z : y == n with
          | true => exact ⟨c, rfl⟩
          | false => exact ⟨d, hy⟩
    · obtain ⟨cl, h1, h2, h3⟩ := closure_go r cs (fun y hy => hn y (List.mem_cons_of_mem _ hy)) hc
      refine ⟨cl, ?_, h2, fun y hy => h3 y ?_⟩
      · rw [List.forIn_cons]
        have hb : (k == NameKind.free) = false := by simpa using hk
        show ((if (k == NameKind.free) = true then _ else _) >>= _) = _
        rw [if_neg (by rw [hb]; decide)]
        exact h1
      · rcases hy with hy | hy
        · rcases List.mem_cons.mp hy with z | z
          · cases z; exact absurd rfl hk
          · exact .inl z
        · exact .inr hy
theorem closure_ok {env : Env} {scope : Scope} (hn : ∀ y ∈ scope.names, y.2 = .free → ∃ c, env.cells.lookup y.1 = some c) :
    ∃ cl : List (Str × Addr), closureFor scope env = pure cl ∧ (∀ y c, cl.lookup y = some c → env.cells.lookup y = some c) ∧ (∀ y, (y, NameKind.free) ∈ scope.names → ∃ c, cl.lookup y = some c) := by
  obtain ⟨cl, h1, h2, h3⟩ := closure_go (env := env) scope.names [] hn (fun y c q => nomatch q)
  refine ⟨cl, ?_, h2, fun y hy => h3 y (.inl hy)⟩
  unfold closureFor
  show (_ >>= fun cs => pure cs) = _
  have e : ∀ m : Sem (List (Str × Addr)), (m >>= fun cs => pure cs) = m := fun m => bind_pure m
  rw [e]
  exact h1

/-! ### the block -/
/-- names of the comprehension's block that stand in the enclosing frame as cells: their slots there -/
inductive Ixs (N : List Str) (sc cs : Scope) : List Str → List Nat → Prop
  | nil : Ixs N sc cs [] []
  | cons {y r j q} (h1 : N[j]? = some y) (h2 : sc.names.lookup y = some .cell ∨ sc.names.lookup y = some .free) (h3 : cs.names.lookup y = some .free) (t : Ixs N sc cs r q) : Ixs N sc cs (y :: r) (j :: q)
structure CompScope (N : List Str) (sc : Scope) (N' : List Str) (ix : List Nat) (x : Str) (r : List Str) (cs : Scope) : Prop where
  eq : N' = x :: r
  kind : cs.kind = .function
  hcell : ∀ y ∈ cs.names, y.2 ≠ .cell
  hnames : ∀ y ∈ cs.names, y.2 = .local → cs.names.lookup y.1 = some .local
  hx : cs.names.lookup x = some .local
  nd : (x :: r).Nodup
  fr : ∀ y ∈ cs.names, y.2 = .free → sc.names.lookup y.1 = some .cell ∨ sc.names.lookup y.1 = some .free
  ixs : Ixs N sc cs r ix
def slotsAt (σ : St) (ix : List Nat) : St := ix.map fun j => (σ[j]?).getD none
def compCx (X : Cx) (N' : List Str) (cs : Scope) (cl : List (Str × Addr)) (s3 : Shared) (H3 : Hp) (fp : List Addr) : Cx :=
  { X with N := N', s₀ := s3, H₀ := H3, env := compEnvC cs cl s3.heap.objs.size X.env, outer := X.stack, stack := X.stack, ex := fp, fn := fun _ => false, pn := [], xe := fun _ _ => False }

theorem relabel_free {env : Env} {cs : Scope} (hcell : ∀ y ∈ cs.names, y.2 ≠ .cell) {y : Str} {k : NameKind} (h : (relabel cs env).names.lookup y = some k) (hk : k = .cell ∨ k = .free) : (y, NameKind.free) ∈ cs.names := by
  have m := PySem.mem_of_lookup h
  obtain ⟨⟨n, k0⟩, h1, h2⟩ := List.mem_map.mp m
  by_cases c : (k0 == NameKind.free && env.scope.kind == .function && env.kindOf n == some .cell) = true
  · have h2' : (n, NameKind.cell) = (y, k) := by rw [← h2]; exact (if_pos c).symm
    cases h2'
    have : k0 = .free := by
      have z := (Bool.and_eq_true_iff.mp (Bool.and_eq_true_iff.mp c).1).1
      exact beq_iff_eq.mp z
    rw [this] at h1
    exact h1
  · have h2' : (n, k0) = (y, k) := by rw [← h2]; exact (if_neg c).symm
    cases h2'
    rcases hk with rfl | rfl
    · exact absurd rfl (hcell _ h1)
    · exact h1

theorem lookup_relabel_free {env : Env} : ∀ {names : List (Str × NameKind)} {x : Str}, names.lookup x = some .free →
    (names.map fun (n, k) => if (k == NameKind.free && env.scope.kind == .function && env.kindOf n == some .cell) then (n, NameKind.cell) else (n, k)).lookup x = some .cell ∨
    (names.map fun (n, k) => if (k == NameKind.free && env.scope.kind == .function && env.kindOf n == some .cell) then (n, NameKind.cell) else (n, k)).lookup x = some .free
  | [], _, h => by simp at h
  | (n, k) :: r, x, h => by
    have ih := @lookup_relabel_free env r x
    rw [List.map_cons]
    show List.lookup x ((if (k == NameKind.free && env.scope.kind == .function && env.kindOf n == some .cell) = true then (n, NameKind.cell) else (n, k)) :: _) = _ ∨ List.lookup x ((if (k == NameKind.free && env.scope.kind == .function && env.kindOf n == some .cell) = true then (n, NameKind.cell) else (n, k)) :: _) = _
    cases hx : x == n with
    | true =>
      simp only [List.lookup_cons, hx] at h
      cases h
      by_cases hc : (NameKind.free == NameKind.free && env.scope.kind == .function && env.kindOf n == some .cell) = true
      · rw [if_pos hc]; exact .inl (by simp only [List.lookup_cons, hx])
      · rw [if_neg hc]; exact .inr (by simp only [List.lookup_cons, hx])
    | false =>
      simp only [List.lookup_cons, hx] at h
      by_cases hc : (k == NameKind.free && env.scope.kind == .function && env.kindOf n == some .cell) = true
      · rw [if_pos hc]; simp only [List.lookup_cons, hx]; exact ih h
      · rw [if_neg hc]; simp only [List.lookup_cons, hx]; exact ih h

theorem Ixs.get {N : List Str} {sc cs : Scope} : ∀ {r : List Str} {ix : List Nat}, Ixs N sc cs r ix → ∀ {i : Nat} {y : Str}, r[i]? = some y →
    ∃ j, ix[i]? = some j ∧ N[j]? = some y ∧ (sc.names.lookup y = some .cell ∨ sc.names.lookup y = some .free) ∧ cs.names.lookup y = some .free
  | _, _, .nil, i, y, h => by simp at h
  | _, _, .cons h1 h2 h3 t, 0, y, h => by simp at h; subst h; exact ⟨_, rfl, h1, h2, h3⟩
  | _, _, .cons h1 h2 h3 t, i + 1, y, h => by
    obtain ⟨j, a, b⟩ := Ixs.get t (i := i) (y := y) (by simpa using h)
    exact ⟨j, by simpa using a, b⟩
theorem Ixs.len {N : List Str} {sc cs : Scope} : ∀ {r : List Str} {ix : List Nat}, Ixs N sc cs r ix → r.length = ix.length
  | _, _, .nil => rfl
  | _, _, .cons _ _ _ t => by rw [List.length_cons, List.length_cons, t.len]

section
variable {X : Cx} {pins : List (Addr × Obj)} {σ : St} {H : Hp} {s : Shared}
theorem Inv.compOk {N' r : List Str} {ix : List Nat} {x : Str} {cs : Scope} {cl : List (Str × Addr)} {fp : List Addr} (I : Inv X pins σ H s) (S : CompScope X.N X.env.scope N' ix x r cs)
    (h2 : ∀ y c, cl.lookup y = some c → X.env.cells.lookup y = some c) (h3 : ∀ y, (y, NameKind.free) ∈ cs.names → ∃ c, cl.lookup y = some c) (hf : ∀ b ∈ fp, FpOk X pins H b) (hfp : ∀ b ∈ fp, b < s.heap.objs.size) :
    (compCx X N' cs cl s H fp).Ok where
  mod := I.ok.mod
  kind := S.kind
  glob := I.ok.glob
  blt := I.ok.blt
  above := Nat.le_refl _
  inj := fun a b c ha hb => I.ok.inj a b c (h2 a c ha) (h2 b c hb)
  has := fun y hy => h3 y (hy.elim (fun z => relabel_free S.hcell z (.inl rfl)) fun z => relabel_free S.hcell z (.inr rfl))
  cab := fun _ _ z => nomatch z
  hd := I.ok.hd
  frames := I.ok.frames
  stk := .inl rfl
  exf := fun b hb => ⟨Nat.ne_of_lt (hfp b hb), fun y c e => (hf b hb).2.2.2.2.1 y c (h2 y c e)⟩
  bs := I.bs
  bsz := Nat.le_trans I.ok.bsz I.sz
  noex := fun b o e hb => by
    rcases (hf b hb).2.2.2.1 with z | z
    · exact I.ok.noex b o e z
    · exact absurd (Nat.lt_of_lt_of_le (Heap.lt_size e) (Nat.le_trans I.ok.bsz z)) (Nat.lt_irrefl _)
  exfs := fun b hb hs => by
    rcases List.mem_cons.mp (I.stkSub b hs) with z | z
    · exact (hf b hb).2.1 z
    · exact (hf b hb).2.2.1 z
  funs := I.stack
  frf := I.stkFree
theorem slotsAt_get {σ : St} {ix : List Nat} {i : Nat} {v : V} (h : (slotsAt σ ix)[i]? = some (some v)) : ∃ j, ix[i]? = some j ∧ σ[j]? = some (some v) := by
  unfold slotsAt at h
  rw [List.getElem?_map] at h
  cases e : ix[i]? with
  | none => rw [e] at h; cases h
  | some j =>
    rw [e] at h
    refine ⟨j, rfl, ?_⟩
    cases q : σ[j]? with
    | none =>
      have h' : ((σ[j]?).getD none) = some v := by simpa using h
      rw [q] at h'; cases h'
    | some o =>
      have h' : ((σ[j]?).getD none) = some v := by simpa using h
      rw [q] at h'
      cases o with
      | none => cases h'
      | some u => cases h'; rfl
theorem Inv.compStart {N' r : List Str} {ix : List Nat} {x : Str} {cs : Scope} {cl : List (Str × Addr)} {fp : List Addr} {h1 : Heap} {tk : Nat} {m : Str → Option Value} (I : Inv X pins σ H s) (S : CompScope X.N X.env.scope N' ix x r cs)
    (h2 : ∀ y c, cl.lookup y = some c → X.env.cells.lookup y = some c) (h3 : ∀ y, (y, NameKind.free) ∈ cs.names → ∃ c, cl.lookup y = some c) (hf : ∀ b ∈ fp, FpOk X pins H b) (hfp : ∀ b ∈ fp, b < s.heap.objs.size)
    (hn : h1.Ns s.heap.objs.size m) (hk : ∀ b o, s.heap.get? b = some o → h1.get? b = some o) :
    Inv (compCx X N' cs cl s H fp) [] (none :: slotsAt σ ix) H { s with heap := h1, toks := tk } := by
  have ok := I.compOk (N' := N') (fp := fp) S h2 h3 hf hfp
  obtain ⟨mo, hno, hlo⟩ := id I.loc
  refine ⟨ok, rfl, I.bare, Un.kept hk, ⟨m, hn, fun i y v e1 e2 e3 => ?_⟩, fun y c e => ?_, I.hok.fresh (Nat.le_refl _), fun y c e => I.freeC y c (h2 y c e), fun p hp => absurd (show p ∈ ([] : List (Addr × Obj)) from hp) (by simp), I.hok.kept hk, ?_⟩
  · cases i with
    | zero => cases e2
    | succ i =>
      have e1' : r[i]? = some y := by
        have : N'[i + 1]? = some y := e1
        rw [S.eq] at this
        simpa using this
      obtain ⟨j, j1, j2, j3, j4⟩ := S.ixs.get e1'
      obtain ⟨j', k1, k2⟩ := slotsAt_get (σ := σ) (ix := ix) (i := i) (v := v) (by simpa using e2)
      rw [j1] at k1; cases k1
      obtain ⟨u, ru, lk⟩ := hlo j y v j2 k2 (j3.elim (fun z => .inr (.inl z)) fun z => .inr (.inr z))
      refine ⟨u, ru, ?_⟩
      obtain ⟨c, hc⟩ := h3 y (PySem.mem_of_lookup j4)
      rcases lk with ⟨k, _⟩ | ⟨k, c', e', z⟩
      · have k' : X.env.scope.names.lookup y = some .local := k
        rcases j3 with q | q <;> (rw [q] at k'; cases k')
      · rw [h2 y c hc] at e'
        cases e'
        refine .inr ⟨?_, c, hc, ?_⟩
        · exact lookup_relabel_free (env := X.env) j4
        · obtain ⟨o, ho, hd⟩ := z
          exact ⟨o, hk c o ho, hd⟩
  · obtain ⟨v, o, ho, hd⟩ := I.cell y c (h2 y c e)
    exact ⟨v, o, hk c o ho, hd⟩
  · show (none :: slotsAt σ ix).length = N'.length
    rw [S.eq, List.length_cons, List.length_cons, S.ixs.len]
    unfold slotsAt
    rw [List.length_map]

/-- the tests of a comprehension's clause -/
def PTs (X : Cx) (ifs : List Expr) (t : TT) : Prop :=
  ∀ (E : Value → Shared → Prop) (pins : List (Addr × Obj)) (s : Shared) (σ : St) (H : Hp) (Q : Bool → Hp → Prop), (∀ e s', X.xe e s' → E e s') → Inv X pins σ H s → t σ H Q →
    wpAny (model X.prog X.w) X.A (forIn ifs true fun c r => if r = true then do let ok ← isTrue c X.env (eval c X.env); pure (ForInStep.yield ok) else pure (ForInStep.yield r)) (TP X pins σ Q) E s
def tNoIf : TT := fun _ H Q => Q true H
theorem pts_nil {X : Cx} : PTs X [] tNoIf := fun _ _ _ _ H _ _ I h => wpAny_tests_nil ⟨H, I, h⟩
theorem pts_one {X : Cx} {c : Expr} {t : TT} (h : PT X c t) : PTs X [c] t := fun _ pins s σ H Q hE I q => wpAny_tests_one (wpAny_mono (h pins s σ H Q I q) (fun _ _ z => z) hE)

/-- how a comprehension goes: W by the turn, a measure, the items so far, the heap; Nx, Nn: what the element, a failed test are to reach -/
def CompGo (J : It) (ρ : St) (g : TG) (tt : TT) (te : TE) (acc : Addr) (Z : Hp → Prop) (H1 : Hp) : Prop :=
  ∃ W : Nat → Nat → List V → Hp → Prop, (∃ m, W 0 m [] (upd H1 acc (.lst []))) ∧ ∀ i m xs H, W i m xs H →
    ((J.stop i H ∧ Z H) ∨ (J.go i H ∧ ∃ (Nx : V → Hp → Prop) (Nn : Hp → Prop), (∀ y H4, Nx y H4 → H4 acc = some (.lst xs) ∧ xs.length < sizeLine ∧ ∃ m', m' < m ∧ W (i + 1) m' (xs ++ [y]) (upd H4 acc (.lst (xs ++ [y])))) ∧
      (∀ H3, Nn H3 → ∃ m', m' < m ∧ W (i + 1) m' xs H3) ∧ ∀ v0 x H', J.yld i H x H' → g x (v0 :: ρ) H' fun σ2 H2 => (∃ v, σ2 = v :: ρ) ∧ tt σ2 H2 fun b H3 => if b = true then te σ2 H3 Nx else Nn H3))

theorem comp_core {N' r : List Str} {ix : List Nat} {x : Str} {cs : Scope} {cl : List (Str × Addr)} {tg iter elt : Expr} {ifs : List Expr} {pos : Pos} {J : It} {fp : List Addr} {it : Addr} {tn : Nat → Heap → Prop} {g : TG} {tt : TT} {te : TE} {Z : Addr → Hp → Prop}
    {RR : Value → Addr → Result → Shared → Prop} {E : Value → Shared → Prop}
    (I : Inv X pins σ H s) (hc : X.calm = true) (S : CompScope X.N X.env.scope N' ix x r cs) (h2 : ∀ y c, cl.lookup y = some c → X.env.cells.lookup y = some c) (h3 : ∀ y, (y, NameKind.free) ∈ cs.names → ∃ c, cl.lookup y = some c)
    (T : Turn X.prog X.w X.K tg J fp it tn) (st : tn 0 s.heap) (hf : ∀ b ∈ fp, FpOk X pins H b)
    (hg : ∀ s3 H3, PG (compCx X N' cs cl s3 H3 fp) tg g) (ht : ∀ s3 H3, PTs (compCx X N' cs cl s3 H3 fp) ifs tt) (he : ∀ s3 H3, PE (compCx X N' cs cl s3 H3 fp) elt te)
    (go : ∀ acc, H acc = none → CompGo J (slotsAt σ ix) g tt te acc (Z acc) H)
    (fin : ∀ acc C s' H' m, Inv X pins σ H' s' → FpOk X pins H' C → s'.heap.Ns C m → Z acc H' → RR (.ref acc) C (.ok .next) s') :
    wpAny (model X.prog X.w) X.A (newList []) (fun acc s₃ => wpAny (model X.prog X.w) X.A (newFunctionEnv cs X.env.globals cl [] X.env.qual none .none (some X.env)) (fun cenv s₄ =>
      codeAny (model X.prog X.w) X.A (.compStart (.ListComp elt [⟨tg, iter, ifs, 0⟩] cs pos) 0 (.ref it) acc { cenv with scope := relabel cs X.env }) (RR acc cenv.locals) s₄) E s₃) E s := by
  refine wpAny_newObj_type (wpAny_newFunctionEnv S.hcell (by intro y hy; simp at hy) (fun h₁ hns₁ hsb₁ => ?_) S.kind)
  dsimp only at hns₁ hsb₁ ⊢
  have hfs : ∀ b ∈ fp, b < s.heap.objs.size := fun b hb => by
    obtain ⟨o, e, _⟩ := T.obj _ _ st b hb
    exact Heap.lt_size e
  have I3 : Inv X pins σ (upd H s.heap.objs.size (.lst [])) { s with heap := s.heap.push { cls := .type "list", data := .seq ([] : List Value).toArray } } := I.lnew (its := []) (t' := s.toks) .nil (Nat.zero_le _)
  have nacc : H s.heap.objs.size = none := I.fresh
  have hf3 : ∀ b ∈ fp, FpOk X pins (upd H s.heap.objs.size (.lst [])) b := fun b hb => ⟨by rw [upd_ne (Nat.ne_of_lt (hfs b hb))]; exact (hf b hb).1, (hf b hb).2⟩
  have hfs3 : ∀ b ∈ fp, b < (s.heap.push { cls := .type "list", data := .seq ([] : List Value).toArray }).objs.size := fun b hb => by
    rw [Heap.size_push]; exact Nat.lt_succ_of_lt (hfs b hb)
  generalize hs3 : ({ s with heap := s.heap.push { cls := .type "list", data := .seq ([] : List Value).toArray } } : Shared) = s3 at I3
  generalize hH3 : upd H s.heap.objs.size (.lst []) = H3 at I3 hf3
  have eh : s.heap.push { cls := .type "list", data := .seq ([] : List Value).toArray } = s3.heap := by rw [← hs3]
  rw [eh] at hns₁ hsb₁ hfs3
  have kp : ∀ b o, s3.heap.get? b = some o → h₁.get? b = some o := fun b o e => hsb₁.extBut b o (Nat.ne_of_lt (Heap.lt_size e)) (Heap.get?_push_of_some _ e)
  have I4 : Inv (compCx X N' cs cl s3 H3 fp) [] (none :: slotsAt σ ix) H3 { s3 with heap := h₁, toks := s3.toks + ([] : List (Str × Value)).length } :=
    I3.compStart S h2 h3 hf3 hfs3 hns₁ kp
  have kp2 : ∀ b o, s.heap.get? b = some o → h₁.get? b = some o := fun b o e => kp b o (by rw [← eh]; exact Heap.get?_push_of_some _ e)
  have st4 : tn 0 h₁ := T.keep _ _ _ st fun b hb o e => kp2 b o e
  obtain ⟨W, ⟨m0, w0⟩, turn⟩ := go s.heap.objs.size nacc
  rw [hH3] at w0
  have stat : ∀ {H' : Hp}, (∀ b ∈ fp, H' b = none) → ∀ b ∈ fp, FpOk (compCx X N' cs cl s3 H3 fp) [] H' b := fun hn b hb =>
    ⟨hn b hb, Nat.ne_of_lt (hfs3 b hb), fun hs => by
      rcases List.mem_cons.mp (I.stkSub b hs) with z | z
      · exact (hf b hb).2.1 z
      · exact (hf b hb).2.2.1 z, .inl hb, fun y c e => (hf b hb).2.2.2.2.1 y c (h2 y c e), fun p hp => absurd (show p ∈ ([] : List (Addr × Obj)) from hp) (by simp)⟩
  have es : s3.heap.objs.size = s.heap.objs.size + 1 := by rw [← eh, Heap.size_push]
  have loop : codeAny (model X.prog X.w) X.A (.compLoop (.ListComp elt [⟨tg, iter, ifs, 0⟩] cs pos) 0 (.ref it) (.ref s.heap.objs.size) (compCx X N' cs cl s3 H3 fp).env)
      (RR (.ref s.heap.objs.size) s3.heap.objs.size) { s3 with heap := h₁, toks := s3.toks + ([] : List (Str × Value)).length } := by
    refine compLoop_any (fun n s' => ∃ i v0 H' xs, Inv (compCx X N' cs cl s3 H3 fp) [] (v0 :: slotsAt σ ix) H' s' ∧ tn i s'.heap ∧ (∀ b ∈ fp, H' b = none) ∧ W i n xs H') ?_ m0
      ⟨0, none, H3, [], I4, st4, fun b hb => (hf3 b hb).1, w0⟩
    rintro n s5 ⟨i, v0, H5, xs, I5, st5, fr5, w5⟩
    rcases turn i n xs H5 w5 with ⟨stop, q⟩ | ⟨hgo, Nx, Nn, hNx, hNn, step⟩
    · refine thn (T.done (compCx X N' cs cl s3 H3 fp) rfl rfl rfl hc i [] s5 _ H5 _ I5 (stat fr5) st5 stop) fun r' s6 ⟨hr, I6⟩ => ?_
      subst hr
      have u : Un (frs X.stack) fp H H5 s.heap s6.heap := by
        refine Un.trans (H1 := H3) (h1 := s3.heap) ?_ I6.base
        rw [← hH3, ← eh]
        exact Un.laid (fun _ _ q => Heap.get?_push_of_some _ q) (Nat.le_refl _) nacc
      have e3 : s3.os = s.os := by rw [← hs3]
      have os6 : s6.os = s.os := I6.os.trans e3
      have J6 : Inv X pins σ H5 s6 := I.call' os6 u I6.hok I6.bare fun b hb => ⟨(hf b hb).2.2.2.1, (hf b hb).2.1, (hf b hb).2.2.2.2.1, (hf b hb).2.2.2.2.2⟩
      obtain ⟨m6, n6, _⟩ := I6.loc
      exact fin _ _ s6 H5 m6 J6 (I.fpOk (by rw [es]; exact Nat.le_succ _) I6.free) n6 q
    · refine thn (T.item (compCx X N' cs cl s3 H3 fp) rfl rfl rfl hc i [] s5 _ H5 _ I5 (stat fr5) st5 hgo) fun r' s6 ⟨u, hr, h6⟩ => ?_
      subst hr
      refine thn h6 fun _ s7 ⟨y, H7, I7, r7, y7, st7, fr7⟩ => ?_
      have I7' := I7.pinned (stat fr7) (T.obj _ _ st7)
      refine wpAny_mono (hg s3 H3 _ s7 _ H7 y u _ I7' r7 (step v0 y H7 y7)) (fun _ s8 ⟨σ8, H8, I8, ⟨v8, e8⟩, q8⟩ => ?_) fun _ _ z => z.elim
      subst e8
      have back : ∀ {s9 : Shared} {H9 : Hp} {m' : Nat} {xs' : List V}, Inv (compCx X N' cs cl s3 H3 fp) ([] ++ pinsAt fp s7.heap) (v8 :: slotsAt σ ix) H9 s9 → m' < n → W (i + 1) m' xs' H9 →
          ∃ m, m < n ∧ ∃ i v0 H' xs, Inv (compCx X N' cs cl s3 H3 fp) [] (v0 :: slotsAt σ ix) H' s9 ∧ tn i s9.heap ∧ (∀ b ∈ fp, H' b = none) ∧ W i m xs H' := fun {s9 H9 m' xs'} I9 hm w9 =>
        ⟨m', hm, i + 1, v8, H9, xs', I9.unpinned, T.keep _ _ _ st7 fun b hb o e => (I9.pin (b, o) (List.mem_append_right _ (List.mem_append_right _ (mem_pinsAt hb e)))).1, fun b hb => by
          obtain ⟨o, e, d⟩ := T.obj _ _ st7 b hb
          exact (I9.pin (b, o) (List.mem_append_right _ (List.mem_append_right _ (mem_pinsAt hb e)))).2.1, w9⟩
      refine thn (ht s3 H3 _ _ s8 _ H8 _ (fun _ _ z => z.elim) I8 q8) fun b s9 ⟨H9, I9, q9⟩ => ?_
      cases b with
      | false =>
        rw [if_neg Bool.false_ne_true] at q9 ⊢
        obtain ⟨m', hm, w9⟩ := hNn H9 q9
        exact back I9 hm w9
      | true =>
        rw [if_pos rfl] at q9 ⊢
        refine wpAny_mono (he s3 H3 _ s9 _ H9 _ I9 q9) (fun u2 s10 ⟨y2, H10, I10, r10, q10⟩ => ?_) fun _ _ z => z.elim
        obtain ⟨a10, z10, m', hm, w10⟩ := hNx y2 H10 q10
        refine wpAny_mono (mt_append (X := compCx X N' cs cl s3 H3 fp) _ s10 _ H10 (.ref s.heap.objs.size) [y2] (.ref s.heap.objs.size) [u2] (fun _ H' => H' = upd H10 s.heap.objs.size (.lst (xs ++ [y2]))) I10 rfl (.cons r10 .nil) ⟨_, xs, y2, rfl, rfl, a10, z10, rfl⟩) (fun _ s11 ⟨_, H11, I11, _, e11⟩ => ?_) fun _ _ z => z.elim
        subst e11
        exact back I11 hm w10
  subst hs3
  exact codeAny_compStart_list loop (T.self X.A 0 _ _ _ st4 loop)
end

section
variable {X : Cx} {N' r : List Str} {ix : List Nat} {x : Str} {cs : Scope} {tg iter elt : Expr} {ifs : List Expr} {pos : Pos} {wi : TI} {g : TG} {tt : TT} {te : TE}
/-- [elt for tg in iter if ..] -/
def tComp (wi : TI) (ix : List Nat) (g : TG) (tt : TT) (te : TE) : TE := fun σ H Q => wi σ H fun J H1 => ∀ acc, H1 acc = none → CompGo J (slotsAt σ ix) g tt te acc (fun H' => Q (.ref acc) H') H1
theorem CompScope.clos {sc : Scope} {N : List Str} (S : CompScope N sc N' ix x r cs) {env : Env} (he : env.scope = sc) (has : ∀ y, (env.kindOf y = some .cell ∨ env.kindOf y = some .free) → ∃ c, env.cells.lookup y = some c) :
    ∃ cl : List (Str × Addr), closureFor cs env = pure cl ∧ (∀ y c, cl.lookup y = some c → env.cells.lookup y = some c) ∧ (∀ y, (y, NameKind.free) ∈ cs.names → ∃ c, cl.lookup y = some c) :=
  closure_ok fun y hy hk => has y.1 (by
    subst he
    exact S.fr y hy hk)
theorem pe_comp (hc : X.calm = true) (S : CompScope X.N X.env.scope N' ix x r cs) (hi : PI X tg iter wi)
    (hg : ∀ cl s3 H3 fp, PG (compCx X N' cs cl s3 H3 fp) tg g) (ht : ∀ cl s3 H3 fp, PTs (compCx X N' cs cl s3 H3 fp) ifs tt) (he : ∀ cl s3 H3 fp, PE (compCx X N' cs cl s3 H3 fp) elt te)
    (hs : ∀ x, foldedSetIterable iter X.env x = pure x := by intro _; rfl) : PE X (.ListComp elt [⟨tg, iter, ifs, 0⟩] cs pos) (tComp wi ix g tt te) := by
  intro pins s σ H Q I h
  obtain ⟨cl, c1, c2, c3⟩ := S.clos rfl I.ok.has
  rw [eval_ListComp]
  refine wpAny_comprehension_free (use := none) rfl hs c1 S.kind S.hnames (thn (hi pins s σ H _ I h) fun v s1 h1 => thn h1 fun itv s2 h2 => ?_)
  obtain ⟨it, fp, tn, J, H2, e, I2, T, st2, f2, R⟩ := h2
  subst e
  refine comp_core (RR := fun acc C => compPost (model X.prog X.w) X.A X.xe none (EP X pins σ Q) acc C) I2 hc S c2 c3 T st2 f2 (fun s3 H3 => hg cl s3 H3 fp) (fun s3 H3 => ht cl s3 H3 fp) (fun s3 H3 => he cl s3 H3 fp) R ?_
  intro acc C s' H' m I' fC hn q
  refine ⟨m, hn, fun h' hb => ⟨.ref acc, H', ?_, rfl, q⟩⟩
  exact I'.turned (t' := s'.toks) (fun b o hne e => (hb.2 b hne).trans e) fC.1 fC.2.1 fC.2.2.2.1 fC.2.2.2.2.1 fC.2.2.2.2.2
end

/-! ### the forms one uses -/
section
variable {ρ : St} {g : TG} {tt : TT} {te : TE} {acc : Addr} {Z : Hp → Prop} {H1 : Hp}
/-- over a range: Pv by the turn, the items so far, the heap; nothing is left out -/
theorem comp_range {lo : Int} {n : Nat} (Pv : Nat → List V → Hp → Prop) (h0 : Pv 0 [] (upd H1 acc (.lst [])))
    (hs : ∀ i xs H, i < n → Pv i xs H → te (some (.int (lo + i)) :: ρ) H fun y H4 => H4 acc = some (.lst xs) ∧ xs.length < sizeLine ∧ Pv (i + 1) (xs ++ [y]) (upd H4 acc (.lst (xs ++ [y]))))
    (hd : ∀ xs H, Pv n xs H → Z H) : CompGo (Itr lo n) ρ (gName 0) tNoIf te acc Z H1 := by
  refine ⟨fun i m xs H => Pv i xs H ∧ i ≤ n ∧ m = n - i, ⟨n, h0, Nat.zero_le _, rfl⟩, ?_⟩
  rintro i m xs H ⟨hp, hi, rfl⟩
  by_cases hlt : i < n
  · refine .inr ⟨hlt, (fun y H4 => H4 acc = some (.lst xs) ∧ xs.length < sizeLine ∧ Pv (i + 1) (xs ++ [y]) (upd H4 acc (.lst (xs ++ [y])))), fun _ => False, fun y H4 q => ⟨q.1, q.2.1, n - (i + 1), by omega, q.2.2, hlt, rfl⟩, fun _ z => z.elim, ?_⟩
    rintro v0 x H' ⟨rfl, rfl⟩
    exact ⟨⟨_, rfl⟩, by simp only [tNoIf, if_true]; exact hs i xs H' hlt hp⟩
  · have : i = n := by omega
    subst this
    exact .inl ⟨Nat.le_refl _, hd xs H hp⟩
/-- over a tuple that stays -/
theorem comp_tup {K : PySem.W.Frag} {a : Addr} {zs : List V} (Pv : Nat → List V → Hp → Prop) (h0 : Pv 0 [] (upd H1 acc (.lst []))) (hl : ∀ i xs H, i ≤ zs.length → Pv i xs H → SqT K H a zs)
    (hs : ∀ i z xs H, zs[i]? = some z → Pv i xs H → te (some z :: ρ) H fun y H4 => H4 acc = some (.lst xs) ∧ xs.length < sizeLine ∧ Pv (i + 1) (xs ++ [y]) (upd H4 acc (.lst (xs ++ [y]))))
    (hd : ∀ xs H, Pv zs.length xs H → Z H) : CompGo (Itt K a) ρ (gName 0) tNoIf te acc Z H1 := by
  refine ⟨fun i m xs H => Pv i xs H ∧ i ≤ zs.length ∧ m = zs.length - i, ⟨zs.length, h0, Nat.zero_le _, rfl⟩, ?_⟩
  rintro i m xs H ⟨hp, hi, rfl⟩
  have sq := hl i xs H hi hp
  by_cases hlt : i < zs.length
  · refine .inr ⟨⟨zs, zs[i], sq, List.getElem?_eq_getElem hlt⟩, (fun y H4 => H4 acc = some (.lst xs) ∧ xs.length < sizeLine ∧ Pv (i + 1) (xs ++ [y]) (upd H4 acc (.lst (xs ++ [y])))), fun _ => False, fun y H4 q => ⟨q.1, q.2.1, zs.length - (i + 1), by omega, q.2.2, hlt, rfl⟩, fun _ z => z.elim, ?_⟩
    rintro v0 x H' ⟨rfl, hx⟩
    exact ⟨⟨_, rfl⟩, by simp only [tNoIf, if_true]; exact hs i x xs H' (hx zs sq) hp⟩
  · have : i = zs.length := by omega
    subst this
    exact .inl ⟨⟨zs, sq, Nat.le_refl _⟩, hd xs H hp⟩
/-- over a list that stays -/
theorem comp_list {K : PySem.W.Frag} {a : Addr} {zs : List V} (Pv : Nat → List V → Hp → Prop) (h0 : Pv 0 [] (upd H1 acc (.lst []))) (hl : ∀ i xs H, i ≤ zs.length → Pv i xs H → SqL K H a zs)
    (hs : ∀ i z xs H, zs[i]? = some z → Pv i xs H → te (some z :: ρ) H fun y H4 => H4 acc = some (.lst xs) ∧ xs.length < sizeLine ∧ Pv (i + 1) (xs ++ [y]) (upd H4 acc (.lst (xs ++ [y]))))
    (hd : ∀ xs H, Pv zs.length xs H → Z H) : CompGo (Itl K a) ρ (gName 0) tNoIf te acc Z H1 := by
  refine ⟨fun i m xs H => Pv i xs H ∧ i ≤ zs.length ∧ m = zs.length - i, ⟨zs.length, h0, Nat.zero_le _, rfl⟩, ?_⟩
  rintro i m xs H ⟨hp, hi, rfl⟩
  have sq := hl i xs H hi hp
  by_cases hlt : i < zs.length
  · refine .inr ⟨⟨zs, zs[i], sq, List.getElem?_eq_getElem hlt⟩, (fun y H4 => H4 acc = some (.lst xs) ∧ xs.length < sizeLine ∧ Pv (i + 1) (xs ++ [y]) (upd H4 acc (.lst (xs ++ [y])))), fun _ => False, fun y H4 q => ⟨q.1, q.2.1, zs.length - (i + 1), by omega, q.2.2, hlt, rfl⟩, fun _ z => z.elim, ?_⟩
    rintro v0 x H' ⟨rfl, hx⟩
    exact ⟨⟨_, rfl⟩, by simp only [tNoIf, if_true]; exact hs i x xs H' (hx zs sq) hp⟩
  · have : i = zs.length := by omega
    subst this
    exact .inl ⟨⟨zs, sq, Nat.le_refl _⟩, hd xs H hp⟩
end
end L2
/-! EXTENSION B of the hand layer: great ints, isinstance, == of data, all, max, sum of a list, bit_length. -/
namespace L2
open PySem PySem.Spec PyProof.Rows
section
variable {X : Cx}
/-! ### great ints -/
theorem intBits_le {k : Int} {n : Nat} (h : k.natAbs < 2 ^ n) : Builtin.Int.intBits k ≤ n := by
  unfold Builtin.Int.intBits
  split
  · exact Nat.zero_le _
  · rename_i h0
    have hk : k.natAbs ≠ 0 := by
      intro z
      apply h0
      have : k = 0 := Int.natAbs_eq_zero.mp z
      subst this
      rfl
    have : k.natAbs.log2 < n := (Nat.log2_lt hk).mpr h
    omega
/-- below so many bits products are made -/
def Fit (i : Int) : Prop := i.natAbs < 2 ^ 8000
theorem Fit.mul {i j : Int} (hi : Fit i) (hj : Fit j) : IntMulOk i j := by
  have h1 := intBits_le hi
  have h2 := intBits_le hj
  unfold IntMulOk
  intro h
  have h3 := (Bool.and_eq_true_iff.mp h).2
  unfold Builtin.Int.intTooBig at h3
  have h4 := of_decide_eq_true h3
  have h5 : (bitsLine : Int) = 134217728 := by decide
  omega
theorem op_mulB : OpR X (binaryOp .Mult) (rI (fun i j => Fit i ∧ Fit j) fun i j => .int (i * j)) := opI fun _ _ _ _ _ _ _ hc q => mul_int q (hc.1.mul hc.2)
theorem Fit.log {i : Int} (h : Fit i) : i.natAbs.log2 < 9000 := by
  by_cases h0 : i.natAbs = 0
  · rw [h0]; decide +kernel
  · have := (Nat.log2_lt h0).mpr h
    omega
theorem op_fdivB : OpR X (binaryOp .FloorDiv) (rI (fun _ j => 0 < j ∧ Fit j) fun i j => .int (i / j)) := opI fun i j _ _ _ _ _ hc q => by
  have h1 : (0 : Int) < j := hc.1
  exact floordiv_int (by omega) (by rw [Int.fdiv_eq_ediv_of_nonneg i (by omega)]; exact q) (.inl (PyProof.noPylong_of_log2 hc.2.log))
theorem Fit.of {i : Int} {n : Nat} (h : i.natAbs < 2 ^ n) (hn : n ≤ 8000 := by decide) : Fit i := Nat.lt_of_lt_of_le h (Nat.pow_le_pow_right (by decide) hn)

/-! ### isinstance(x, T) -/
/-! ### data: lists and tuples of scalars and of one another -/
mutual
inductive Rds (K : PySem.W.Frag) (H : Hp) : V → PyData → Prop
  | non : Rds K H .non .none
  | bl (b : Bool) : Rds K H (.bl b) (.bool b)
  | int (i : Int) : Rds K H (.int i) (.int i)
  | str (x : Str) : Rds K H (.str x) (.str x)
  | lst {a : Addr} {xs : List V} {ds : List PyData} (h : SqL K H a xs) (t : RdsAll K H xs ds) : Rds K H (.ref a) (.list ds)
  | tup {a : Addr} {xs : List V} {ds : List PyData} (h : SqT K H a xs) (t : RdsAll K H xs ds) : Rds K H (.ref a) (.tuple ds)
inductive RdsAll (K : PySem.W.Frag) (H : Hp) : List V → List PyData → Prop
  | nil : RdsAll K H [] []
  | cons {v : V} {vs : List V} {d : PyData} {ds : List PyData} (h : Rds K H v d) (t : RdsAll K H vs ds) : RdsAll K H (v :: vs) (d :: ds)
end
mutual
theorem Rds.reads {pins : List (Addr × Obj)} {σ : St} {H : Hp} {s : Shared} (I : Inv X pins σ H s) : ∀ {x : V} {d : PyData} {u : Value}, Rds X.K H x d → RelV x u → ∃ as, Reads s.heap u d as
  | _, _, _, .non, r => by cases r; exact ⟨_, .none⟩
  | _, _, _, .bl b, r => by cases r; exact ⟨_, .bool b⟩
  | _, _, _, .int i, r => by obtain ⟨t, rfl⟩ := r; exact ⟨_, .int i t⟩
  | _, _, _, .str x, r => by obtain ⟨t, rfl⟩ := r; exact ⟨_, .str x t⟩
  | _, _, _, .lst h t, r => by
    cases r
    obtain ⟨its, rv, pl, _⟩ := I.list h
    obtain ⟨o, ho, hc, n, hd⟩ := pl.isList
    obtain ⟨as, q⟩ := RdsAll.reads I t rv
    exact ⟨_, .list ho hc hd q⟩
  | _, _, _, .tup h t, r => by
    cases r
    obtain ⟨its, rv, pl, _⟩ := I.tuple h
    obtain ⟨o, ho, hc, n, hd⟩ := pl
    obtain ⟨as, q⟩ := RdsAll.reads I t rv
    exact ⟨_, .tuple ho hc hd q⟩
theorem RdsAll.reads {pins : List (Addr × Obj)} {σ : St} {H : Hp} {s : Shared} (I : Inv X pins σ H s) : ∀ {xs : List V} {ds : List PyData} {us : List Value}, RdsAll X.K H xs ds → Vals xs us → ∃ as, ReadsAll s.heap us ds as
  | _, _, _, .nil, r => by cases r; exact ⟨_, .nil⟩
  | _, _, _, .cons h t, r => by
    cases r with
    | cons r1 r2 =>
      obtain ⟨as, q1⟩ := Rds.reads I h r1
      obtain ⟨bs, q2⟩ := RdsAll.reads I t r2
      exact ⟨_, .cons q1 q2⟩
end
theorem RdsAll.ints {K : PySem.W.Frag} {H : Hp} : ∀ ns : List Int, RdsAll K H (ns.map V.int) (ns.map PyData.int)
  | [] => .nil
  | n :: r => .cons (.int n) (RdsAll.ints r)
def rEqD (K : PySem.W.Frag) (neg : Bool) : R2 := fun x y H Q => ∃ dx dy, Rds K H x dx ∧ Rds K H y dy ∧ SeqAt.shaped dx = true ∧ SeqAt.shaped dy = true ∧ Q (.bl (if neg then !PyData.eqv dx dy else PyData.eqv dx dy)) H
theorem op_eqD (hu : X.A.units + 64 < cLine) : OpR X (compareOp .Eq) (rEqD X.K false) := by
  intro pins s σ H x y v u Q I rx ry ⟨dx, dy, hx, hy, sx, sy, q⟩
  obtain ⟨as, ra⟩ := hx.reads I rx
  obtain ⟨bs, rb⟩ := hy.reads I ry
  exact eq_dataH ra rb sx sy hu ⟨.bl _, H, I, rfl, q⟩
theorem op_neD (hu : X.A.units + 64 < cLine) : OpR X (compareOp .NotEq) (rEqD X.K true) := by
  intro pins s σ H x y v u Q I rx ry ⟨dx, dy, hx, hy, sx, sy, q⟩
  obtain ⟨as, ra⟩ := hx.reads I rx
  obtain ⟨bs, rb⟩ := hy.reads I ry
  exact ne_dataH ra rb sx sy hu ⟨.bl _, H, I, rfl, q⟩

/-! ### all, max, sum of a list -/
end
end L2
/-! EXTENSION C of the hand layer: exceptions of own classes, raised, passed on, caught. -/
namespace L2
open PySem PySem.Spec PyProof.Rows

/-- an exception behind a call: of the own class at C; B: all that stays while it flies -/
def XOk (P : Program) (w : World) : CXT := fun outer H s E e s' => ∃ (ea C : Addr) (a0 : Value) (H' : Hp) (B : Heap), e = .ref ea ∧ Heap.FlyingW B outer ea (.ref C) a0 s'.heap ∧ s'.os = s.os ∧ AllBare s'.gens ∧
  Un (frs outer) [] H H' s.heap s'.heap ∧ HOk P w H' B ∧ (∀ b o, s.heap.get? b = some o → H b = none → b ∉ frs outer → B.get? b = some o) ∧ (∀ b o, s.heap.get? b = some o → b ∉ frs outer → ∃ o', B.get? b = some o') ∧ E (.ref C) none H'

/-- a def's own frame stands on top -/
structure Top1 (X : Cx) : Prop where
  stk : X.stack = X.env :: X.outer
  frm : X.env.frame = some X.env.locals
  ex : X.ex = []

section
variable {X : Cx} {pins : List (Addr × Obj)} {σ : St} {H : Hp} {s : Shared}
theorem Top1.mem (T : Top1 X) {b : Addr} : b ∈ frs X.stack ↔ b = X.env.locals ∨ b ∈ X.fs := by
  rw [T.stk]
  unfold frs
  rw [List.filterMap_cons, T.frm]
  exact List.mem_cons
theorem Inv.hokB (I : Inv X pins σ H s) : HOk X.prog X.w H (PySem.W.hideAll s.heap (frs X.stack)) := fun a o e =>
  (I.hok a o e).stay (fun b u hb q => PySem.W.hideAll_get _ q fun hm => by
    have z := I.stkFree b hm
    rcases hb with rfl | hb
    · rw [z] at e; cases e
    · rw [z] at hb; cases hb) (fun _ q => q) fun _ _ q => q
theorem raise_out {E : XK} {E' : Value → Shared → Prop} {h2 : Heap} {ea C : Addr} {vs : List Value} (T : Top1 X) (I : Inv X pins σ H s) (hx : Heap.MadeExcOf s.heap h2 ea (.ref C) vs) (q : E (.ref C) none H) :
    wpAny (model X.prog X.w) X.A (leaving X.env (.ref ea)) (fun _ s'' => XOk X.prog X.w X.outer X.H₀ X.s₀ E (.ref ea) s'') E' { s with heap := h2 } := by
  have hfr : X.A.frames = some (X.env :: X.outer) := by rw [← T.stk]; exact I.ok.frames
  have hst := I.stack
  have hin : ∀ env ∈ X.stack, ∀ b, env.frame = some b → b ∈ frs X.stack := fun env he b hb => List.mem_filterMap.mpr ⟨env, he, hb⟩
  have hB := PySem.W.funFrames_hide hst hin
  rw [T.stk] at hB
  have out : ∀ b o, X.s₀.heap.get? b = some o → b ∉ X.fs → b ∉ frs X.stack := fun b o e hb hm => by
    rcases T.mem.mp hm with z | z
    · exact absurd (Nat.lt_of_lt_of_le (Heap.lt_size e) I.ok.above) (by rw [z]; exact Nat.lt_irrefl _)
    · exact hb z
  have nx : ∀ b : Addr, b ∉ X.ex := fun b z => by rw [T.ex] at z; cases z
  have toB : ∀ b o, s.heap.get? b = some o → b ∉ frs X.stack → (PySem.W.hideAll s.heap (frs X.stack)).get? b = some o := fun b o e hb => PySem.W.hideAll_get _ e hb
  refine wpAny_leaves_madeW (base := PySem.W.hideAll s.heap (frs X.stack)) hfr T.frm (fun b o q => PySem.W.of_hideAll _ q) (by rw [T.stk]; exact hB) hx fun h' t x1 _ _ x4 => ?_
  have slot : ∀ b, b ∈ frs X.stack → ∀ o, s.heap.get? b = some o → ∃ sl, h'.get? b = some { o with slots := sl } := fun b hb o e => by
    obtain ⟨_, o2, e2, nf⟩ := hst.mem hb
    rw [e] at e2; cases e2
    exact x4 b o (hx.keeps b o e) nf
  refine ⟨ea, C, _, H, _, rfl, x1, I.os, I.bare, ⟨fun b o e n hb _ => ?_, fun b o e n hb _ => ?_, fun b o e n _ => I.base.free b o e n (nx b), fun b o e _ => ?_, I.base.tups, I.base.frzs, I.base.tbls⟩, I.hokB, fun b o e n hb => ?_, fun b o e hb => ?_, q⟩
  · exact x1.1 b o (toB b o (I.base.keep b o e n hb (nx b)) (out b o e hb))
  · obtain ⟨sl, e1⟩ := I.base.slot b o e n hb (nx b)
    obtain ⟨sl2, e2⟩ := slot b (T.mem.mpr (.inr hb)) _ e1
    exact ⟨sl2, e2⟩
  · obtain ⟨o', e1⟩ := I.base.there b o e (nx b)
    by_cases hb : b ∈ frs X.stack
    · obtain ⟨sl, e2⟩ := slot b hb o' e1
      exact ⟨_, e2⟩
    · exact ⟨o', x1.1 b o' (toB b o' e1 hb)⟩
  · exact toB b o (I.base.keep b o e n hb (nx b)) (out b o e hb)
  · obtain ⟨o', e1⟩ := I.base.there b o e (nx b)
    exact ⟨o', toB b o' e1 (out b o e hb)⟩
/-! ### raise -/
theorem own_obj {K : PySem.W.Frag} {h₀ : Heap} {mg : Str → Option Value} {x : Str} {C : Addr} {bmB : List Value} {newId : String} (X : K.In h₀) (hm : mg x = some (.ref C)) (q : PySem.W.excIn K C bmB newId = true) : OwnCls x C bmB newId mg h₀ := by
  refine ⟨hm, ?_⟩
  unfold PySem.W.excIn at q
  split at q
  · rename_i dd cd sl ho
    split at q
    · rename_i C' bm k0 k1 k2 k3 n k5 hm hs
      simp only [Bool.and_eq_true, beq_iff_eq, Bool.not_eq_true'] at q
      obtain ⟨⟨⟨⟨⟨rfl, rfl⟩, hdel⟩, ht⟩, hok⟩, hni⟩ := q
      obtain ⟨nm, bs, mro, ns, qn, hd, sn, sub, ab, col, del⟩ := cd
      dsimp only at hm hdel hok hni
      subst hm hdel
      have hsl : sl = #[k0, k1, k2, k3, some (.builtin n), k5] := by
        obtain ⟨l⟩ := sl
        simp only at hs
        rw [hs]
      subst hsl
      exact ⟨bm, ns, nm, qn, bs, hd, sn, sub, ab, col, dd, k0, k1, k2, k3, k5, _, X _ _ ho, .of_isNs (PySem.W.isNs_of_in X hok), PySem.W.nsMap_none_of_in X hok hni, PySem.W.tail_of_in X ht⟩
    · cases q
  · cases q
/-- what the text's top must have written of an own exception class -/
structure Exc (K : PySem.W.Frag) (C : Addr) (B newId initId : String) (bmB : List Value) : Prop where
  at_ : PySem.W.excIn K C bmB newId = true
  base : ExcBaseFacts B newId initId bmB
/-- raise C(e, ..) -/
theorem ps_raise {x : Str} {C : Addr} {B newId initId : String} {bmB : List Value} {e₀ : Expr} {rest : List Expr} {ta : TA} {np cpos pos : Pos} {R : Hp → Prop} (hc : X.calm = true) (hg : Gl X x) (hm : X.mg x = some (.ref C)) (O : Exc X.K C B newId initId bmB)
    (ha : PA X (e₀ :: rest) ta) (hR : ∀ pins σ H s h' ea vs, Inv X pins σ H s → Heap.MadeExcOf s.heap h' ea (.ref C) vs → R H → X.xe (.ref ea) { s with heap := h' })
    (hdb : (x == ("__debug__" : Str)) = false := by decide) (he : starEach (e₀ :: rest) X.env = (false, eval e₀ X.env) :: starEach rest X.env := by rfl) (hplain : (backTo cpos (starEach rest X.env)).any (·.1) = false := by rfl) :
    PS X (.Raise (some (.Call (.Name x np) (e₀ :: rest) [] cpos)) none pos) (fun _ σ H => ta σ H fun vs H1 => vs.length ≤ sizeLine ∧ R H1) := by
  intro pins s σ H D I h
  have OC : OwnCls x C bmB newId X.mg X.base := own_obj I.ok.mod.kin hm O.at_
  obtain ⟨tl, N, nm, q, bs, hdct, sn, sub, ab, col, dd, k0, k1, k2, k3, k5, mN, hC, hN, hni, TL⟩ := id OC.obj
  refine wpAny_Raise_call_subT (C := C) (nm := nm) (q := q) (N := N) (bs := bs) (bm := tl) (hdct := hdct) (sn := sn) (sub := sub) (ab := ab) (col := col) (dd := dd) (k0 := k0) (k1 := k1) (k2 := k2) (k3 := k3) (k5 := k5)
    O.base (mN := mN) (TL.hasType O.base.hasBase) (I.ok.hd hc) (by rw [he]; show (false || (backTo cpos (starEach rest X.env)).any (·.1)) = false; rw [hplain]; rfl) hni (ld_glob I hg hm ⟨rfl, ?_⟩ hdb)
  have hA := ha cpos pins s σ H _ I h
  rw [he] at hA ⊢
  refine Calls.evalArgs_plain (wpAny_mono hA (fun us s2 ⟨vs, H1, I1, r1, hz, hr⟩ => ?_) fun _ _ y => y)
  have hl : us.length ≤ sizeLine := by rw [← r1.length]; exact hz
  exact ⟨rfl, hl, I1.bk _ _ hC, hN.keeps I1.bk, TL.keeps I1.bk, fun h' ea hx => hR pins σ H1 s2 h' ea us I1 hx hr⟩

/-! ### expressions and statements that may raise -/
def XP (X : Cx) (pins : List (Addr × Obj)) (σ : St) (E : XK) (ex : Value) (s' : Shared) : Prop := ∃ H1 s1, Inv X pins σ H1 s1 ∧ XOk X.prog X.w X.stack H1 s1 E ex s'
abbrev TX := St → Hp → VK → XK → Prop
def PX (X : Cx) (e : Expr) (t : TX) : Prop :=
  ∀ (pins : List (Addr × Obj)) (s : Shared) (σ : St) (H : Hp) (Q : VK) (E : XK), Inv X pins σ H s → t σ H Q E → wpAny (model X.prog X.w) X.A (eval e X.env) (EP X pins σ Q) (XP X pins σ E) s
theorem px_call {k : Nat} {f : Addr} {fd : FuncData} {ps : List Str} {sp : Sp} {dvs : List V} {ds : List Value} {x : Str} {p pos : Pos} {e : Expr} {es : List Expr} {t : TA}
    (F : FnOk X.prog X.w X.K X.mg X.base (XOk X.prog X.w) k f fd ps sp) (hr : Room k X.A) (hg : Gl X x) (hm : X.mg x = some (.ref f)) (hk : PySem.W.keepIn X.K (.ref f) = true) (hb : Binds X.K fd ps ds) (hd : Vals dvs ds)
    (ha : PA X.nox (e :: es) t) (hdb : (x == ("__debug__" : Str)) = false := by decide) (he : starEach (e :: es) X.env = (false, eval e X.env) :: starEach es X.env := by rfl) (hpl : (backTo pos (starEach es X.env)).any (·.1) = false := by rfl) :
    PX X (.Call (.Name x p) (e :: es) [] pos) (fun σ H Q E => t σ H fun vs H1 => sp (vs ++ dvs) H1 Q E) := by
  intro pins s σ H Q E I h
  refine wpAny_Call_Name_kw (ld_glob I hg hm ?_ hdb)
  refine PySem.W.callWith_K (h₀ := X.base) I.ok.mod.kin hk (wpAny_mono (ha pos pins s σ H _ (I.wish _) h) (fun us s1 ⟨vs, H1, I1', r, q⟩ => ?_) fun _ _ z => z.elim) he hpl
  have I1 : Inv X pins σ H1 s1 := I1'.unwish
  refine ⟨I1.kIn, ?_⟩
  have r2 : Vals (vs ++ dvs) (us ++ ds) := r.append hd
  have hl : (us ++ ds).length = ps.length := by rw [← r2.length]; exact F.len _ _ _ _ q
  refine wpAny_call (codeAny_mono (F.run X.A X.stack s1 H1 ⟨us, []⟩ (us ++ ds) (vs ++ dvs) Q E hr I1.env0 (hb s1 us I1.kIn hl) r2 q) fun r s' hq => ?_)
  cases r with
  | error e => exact ⟨H1, s1, I1, hq⟩
  | ok fl =>
    cases fl with
    | ret u => exact I1.after hq
    | next => exact False.elim hq
    | brk => exact False.elim hq
    | cont => exact False.elim hq
abbrev TSX := Ends → (St → XK) → St → Hp → Prop
def PSX (X : Cx) (st : List Stmt) (t : TSX) : Prop :=
  ∀ (pins : List (Addr × Obj)) (s : Shared) (σ : St) (H : Hp) (D : Ends) (E : St → XK), Inv X pins σ H s → t D E σ H → wpAny (model X.prog X.w) X.A (execs st X.env) (SP X pins D) (fun ex s' => ∃ σ1, XP X pins σ1 (E σ1) ex s') s
/-! ### try .. except C: .. -/
def Cx.caught (X : Cx) (e : Value) : Cx := { X with A := X.A.mark (some e), calm := false, xe := fun _ _ => False }
theorem Inv.caught (I : Inv X pins σ H s) (e : Value) (hfr : (X.A.mark (some e)).frames = X.A.frames := by rfl) : Inv (X.caught e) pins σ H s :=
  ⟨⟨I.ok.mod, I.ok.kind, I.ok.glob, I.ok.blt, I.ok.above, I.ok.inj, I.ok.has, I.ok.cab, (fun z => nomatch z), hfr.trans I.ok.frames, I.ok.stk, I.ok.exf, I.ok.bs, I.ok.bsz, I.ok.noex, I.ok.exfs, I.ok.funs, I.ok.frf⟩, I.os, I.bare, I.base, I.loc, I.cell, I.free, I.freeC, I.pin, I.hok, I.len⟩
theorem Inv.uncaught {e : Value} (ok : X.Ok) (I : Inv (X.caught e) pins σ H s) : Inv X pins σ H s := ⟨ok, I.os, I.bare, I.base, I.loc, I.cell, I.free, I.freeC, I.pin, I.hok, I.len⟩
theorem SP.uncaught {e : Value} {D : Ends} {f : Flow} {s' : Shared} (ok : X.Ok) (h : SP (X.caught e) pins D f s') : SP X pins D f s' := by
  cases f with
  | next => obtain ⟨a, b, I, q⟩ := h; exact ⟨a, b, I.uncaught ok, q⟩
  | brk => obtain ⟨a, b, I, q⟩ := h; exact ⟨a, b, I.uncaught ok, q⟩
  | cont => obtain ⟨a, b, I, q⟩ := h; exact ⟨a, b, I.uncaught ok, q⟩
  | ret u => obtain ⟨v, a, b, I, r, q⟩ := h; exact ⟨v, a, b, I.uncaught ok, r, q⟩
/-- the heap behind the landing -/
theorem Inv.landed {s' : Shared} {H' : Hp} {B h5 : Heap} (T : Top1 X) (I : Inv X pins σ H s) (os : s'.os = s.os) (ba : AllBare s'.gens) (un : Un (frs X.stack) [] H H' s.heap s'.heap) (hk : HOk X.prog X.w H' B)
    (kb : ∀ b o, s.heap.get? b = some o → H b = none → b ∉ frs X.stack → B.get? b = some o) (tb : ∀ b o, s.heap.get? b = some o → b ∉ frs X.stack → ∃ o', B.get? b = some o')
    (st : B.StaysIn h5) (sm : s'.heap.UpToSlots h5) (ff : s'.heap.FunFrames B X.stack) : Inv X pins σ H' { s' with heap := h5 } := by
  have n0 : ∀ b : Addr, b ∉ ([] : List Addr) := fun b z => nomatch z
  have slot : ∀ b, b ∈ frs X.stack → ∀ o, s'.heap.get? b = some o → ∃ sl, h5.get? b = some { o with slots := sl } := fun b hb o e => by
    obtain ⟨_, o2, e2, nf⟩ := ff.mem hb
    rw [e] at e2; cases e2
    exact sm b o e nf
  refine I.call' (s' := { s' with heap := h5 }) (ch := []) os ⟨fun b o e n hb _ => st b o (kb b o e n hb), fun b o e n hb _ => ?_, fun b o e n _ => un.free b o e n (n0 b), fun b o e _ => ?_, un.tups, un.frzs, un.tbls⟩ (hk.kept st) ba fun b hb => nomatch hb
  · obtain ⟨sl, e1⟩ := un.slot b o e n hb (n0 b)
    obtain ⟨sl2, e2⟩ := slot b hb _ e1
    exact ⟨sl2, e2⟩
  · by_cases hb : b ∈ frs X.stack
    · obtain ⟨o1, e1⟩ := un.there b o e (n0 b)
      obtain ⟨sl, e2⟩ := slot b hb o1 e1
      exact ⟨_, e2⟩
    · obtain ⟨o1, e1⟩ := tb b o e hb
      exact ⟨o1, st b o1 e1⟩
end

/-! ### a def that raises -/
section
variable {P : Program} {w : World} {K : PySem.W.Frag} {mg : Str → Option Value} {base : Heap}
abbrev cxX (P : Program) (w : World) (K : PySem.W.Frag) (mg : Str → Option Value) (base : Heap) (N : List Str) (qual : Str) (scope : Scope) (f : Addr) (cd : Value) (A : Around) (outer : List Env) (s : Shared) (H : Hp) (E : XK) : Cx := cxOf (XOk P w) P w K mg base N qual scope f cd A outer s H E
theorem top_cxX {N : List Str} {qual : Str} {scope : Scope} {f : Addr} {cd : Value} {A : Around} {outer : List Env} {s : Shared} {H : Hp} {E : XK} {CX : CXT} : Top1 (cxOf CX P w K mg base N qual scope f cd A outer s H E) := ⟨rfl, rfl, rfl⟩
theorem top_nox {X : Cx} (T : Top1 X) : Top1 X.nox := ⟨T.stk, T.frm, T.ex⟩
theorem raises1 {N : List Str} {qual : Str} {scope : Scope} {f C : Addr} {cd : Value} {A : Around} {outer : List Env} {s : Shared} {H : Hp} {E : XK} :
    ∀ (pins : List (Addr × Obj)) (σ : St) (H1 : Hp) (s1 : Shared) (h' : Heap) (ea : Addr) (vs : List Value), Inv (cxX P w K mg base N qual scope f cd A outer s H E) pins σ H1 s1 → Heap.MadeExcOf s1.heap h' ea (.ref C) vs → E (.ref C) none H1 →
      (cxX P w K mg base N qual scope f cd A outer s H E).xe (.ref ea) { s1 with heap := h' } :=
  fun pins σ H1 s1 h' ea vs I hx q => raise_out (E' := fun e' s'' => XOk P w outer H s E e' s'') top_cxX I hx q
/-- a def of the text (defaults dV), that may raise -/
structure FunD (K : PySem.W.Frag) (x qual : Str) (st : Stmt) (f : Addr) (fd : FuncData) (dV : Value) : Prop where
  ex : ∃ (oc : Value) (od : Option Addr) (kV doc pm : Value) (an : Option Addr) (cdv ct : Value) (osl : Array (Option Value)),
    fd = PySem.W.fnOf x qual (defArgs st) (defBody st) (defScope st) dV kV doc pm an cdv ct ∧ K.lookup f = some ⟨oc, od, .func fd, osl⟩ ∧ PySem.W.codeIn K cdv qual = true
  kp : PySem.W.keepIn K (.ref f) = true
theorem FunD.okX {x qual : Str} {st : Stmt} {f : Addr} {fd : FuncData} {dV : Value} {N ps : List Str} {k : Nat} {sp : Sp} (F : FunD K x qual st f fd dV) (S : FnScope N ps (defScope st)) (len : ∀ vs H Q E, sp vs H Q E → vs.length = ps.length)
    (hbody : ∀ (cdv : Value) (A : Around) (outer : List Env) (s : Shared) (H : Hp) (vs : List V) (Q : VK) (E : XK), Room k (A.deeper (envOfC qual (defScope st) s.heap.objs.size f cdv)) → sp vs H Q E →
      ∃ t, PSs (cxX P w K mg base N qual (defScope st) f cdv A outer s H E) (defBody st) t ∧ t { nx := fun _ H' => Q .non H', rt := Q } (start N vs) H) : FnOk P w K mg base (XOk P w) (k + 1) f fd ps sp := by
  obtain ⟨oc, od, kV, doc, pm, an, cdv, ct, osl, rfl, lk, hcd⟩ := F.ex
  exact fn_of lk hcd S len fun A outer s H vs Q E hr hsp => hbody cdv A outer s H vs Q E hr hsp
theorem FunD.ok {x qual : Str} {st : Stmt} {f : Addr} {fd : FuncData} {dV : Value} {N ps : List Str} {k : Nat} {sp : Sp} (F : FunD K x qual st f fd dV) (S : FnScope N ps (defScope st)) (len : ∀ vs H Q E, sp vs H Q E → vs.length = ps.length)
    (hbody : ∀ (cdv : Value) (A : Around) (outer : List Env) (s : Shared) (H : Hp) (vs : List V) (Q : VK) (E : XK), Room k (A.deeper (envOfC qual (defScope st) s.heap.objs.size f cdv)) → sp vs H Q E →
      ∃ t, PSs (cxOf CX0 P w K mg base N qual (defScope st) f cdv A outer s H E).nox (defBody st) t ∧ t { nx := fun _ H' => Q .non H', rt := Q } (start N vs) H) : FnOk P w K mg base CX0 (k + 1) f fd ps sp := by
  obtain ⟨oc, od, kV, doc, pm, an, cdv, ct, osl, rfl, lk, hcd⟩ := F.ex
  refine fn_of lk hcd S len fun A outer s H vs Q E hr hsp => ?_
  obtain ⟨t, h, q⟩ := hbody cdv A outer s H vs Q E hr hsp
  exact ⟨t, h.nox, q⟩
theorem fund_mk {x qual : Str} {st : Stmt} {f : Addr} {oc dV : Value} {od an : Option Addr} {osl : Array (Option Value)} {kV doc pm cdv ct : Value} (l : K.lookup f = some ⟨oc, od, .func (PySem.W.fnOf x qual (defArgs st) (defBody st) (defScope st) dV kV doc pm an cdv ct), osl⟩)
    (c : PySem.W.codeIn K cdv qual = true) (k : PySem.W.keepIn K (.ref f) = true) : FunD K x qual st f (PySem.W.fnOf x qual (defArgs st) (defBody st) (defScope st) dV kV doc pm an cdv ct) dV := ⟨⟨oc, od, kV, doc, pm, an, cdv, ct, osl, rfl, l, c⟩, k⟩
end
end L2
/-! EXTENSION D of the hand layer: defs by their names; rules by kinds joined; a reading by simp. -/
namespace L2
open PySem PySem.Spec PyProof.Rows
/-- a def of the top, as it stands, with the defaults dvs that fill up -/
def At (K : PySem.W.Frag) (mg : Str → Option Value) (x : Str) (st : Stmt) (ps : List Str) (dvs : List V) : Prop :=
  ∃ f fd dV ds, FunD K x x st f fd dV ∧ mg x = some (.ref f) ∧ Binds K fd ps ds ∧ Vals dvs ds
/-- .. and its promise -/
def DefOk (P : Program) (w : World) (K : PySem.W.Frag) (mg : Str → Option Value) (base : Heap) (CX : CXT) (k : Nat) (x : Str) (ps : List Str) (dvs : List V) (sp : Sp) : Prop :=
  ∃ f fd ds, FnOk P w K mg base CX k f fd ps sp ∧ mg x = some (.ref f) ∧ PySem.W.keepIn K (.ref f) = true ∧ Binds K fd ps ds ∧ Vals dvs ds
section
variable {P : Program} {w : World} {K : PySem.W.Frag} {mg : Str → Option Value} {base : Heap}
theorem At.ok {x : Str} {st : Stmt} {N ps : List Str} {dvs : List V} {k : Nat} {sp : Sp} (F : At K mg x st ps dvs) (S : FnScope N ps (defScope st)) (len : ∀ vs H Q E, sp vs H Q E → vs.length = ps.length)
    (hbody : ∀ (f : Addr) (cdv : Value) (A : Around) (outer : List Env) (s : Shared) (H : Hp) (vs : List V) (Q : VK) (E : XK), Room k (A.deeper (envOfC x (defScope st) s.heap.objs.size f cdv)) → sp vs H Q E →
      ∃ t, PSs (cxOf CX0 P w K mg base N x (defScope st) f cdv A outer s H E).nox (defBody st) t ∧ t { nx := fun _ H' => Q .non H', rt := Q } (start N vs) H) : DefOk P w K mg base CX0 (k + 1) x ps dvs sp := by
  obtain ⟨f, fd, dV, ds, F1, hm, hb, hd⟩ := F
  exact ⟨f, fd, ds, F1.ok S len (hbody f), hm, F1.kp, hb, hd⟩
theorem At.okX {x : Str} {st : Stmt} {N ps : List Str} {dvs : List V} {k : Nat} {sp : Sp} (F : At K mg x st ps dvs) (S : FnScope N ps (defScope st)) (len : ∀ vs H Q E, sp vs H Q E → vs.length = ps.length)
    (hbody : ∀ (f : Addr) (cdv : Value) (A : Around) (outer : List Env) (s : Shared) (H : Hp) (vs : List V) (Q : VK) (E : XK), Room k (A.deeper (envOfC x (defScope st) s.heap.objs.size f cdv)) → sp vs H Q E →
      ∃ t, PSs (cxX P w K mg base N x (defScope st) f cdv A outer s H E) (defBody st) t ∧ t { nx := fun _ H' => Q .non H', rt := Q } (start N vs) H) : DefOk P w K mg base (XOk P w) (k + 1) x ps dvs sp := by
  obtain ⟨f, fd, dV, ds, F1, hm, hb, hd⟩ := F
  exact ⟨f, fd, ds, F1.okX S len (hbody f), hm, F1.kp, hb, hd⟩
end
section
variable {X : Cx} {CX : CXT} {k : Nat} {ps : List Str} {sp : Sp} {dvs : List V} {E : XK} {x : Str} {p pos : Pos} {e : Expr} {es : List Expr} {t : TA}
theorem pe_callD (D : DefOk X.prog X.w X.K X.mg X.base CX k x ps dvs sp) (hr : Room k X.A) (hg : Gl X x) (hx : Passes CX X E) (ha : PA X (e :: es) t) (hdb : (x == ("__debug__" : Str)) = false := by decide)
    (he : starEach (e :: es) X.env = (false, eval e X.env) :: starEach es X.env := by rfl) (hpl : (backTo pos (starEach es X.env)).any (·.1) = false := by rfl) : PE X (.Call (.Name x p) (e :: es) [] pos) (tCall sp dvs E t) := by
  obtain ⟨f, fd, ds, F, hm, hk, hb, hd⟩ := D
  exact pe_call F hr hg hm hk hb hd hx ha hdb he hpl
theorem px_callD (D : DefOk X.prog X.w X.K X.mg X.base (XOk X.prog X.w) k x ps dvs sp) (hr : Room k X.A) (hg : Gl X x) (ha : PA X.nox (e :: es) t) (hdb : (x == ("__debug__" : Str)) = false := by decide)
    (he : starEach (e :: es) X.env = (false, eval e X.env) :: starEach es X.env := by rfl) (hpl : (backTo pos (starEach es X.env)).any (·.1) = false := by rfl) : PX X (.Call (.Name x p) (e :: es) [] pos) (fun σ H Q E => t σ H fun vs H1 => sp (vs ++ dvs) H1 Q E) := by
  obtain ⟨f, fd, ds, F, hm, hk, hb, hd⟩ := D
  exact px_call F hr hg hm hk hb hd ha hdb he hpl
/-! ### operations by kinds joined -/
/-! ### bit_length -/
theorem mt_bits : MtR X "int.bit_length" (fun x xs H Q => ∃ i, x = .int i ∧ xs = [] ∧ Q (.int (Builtin.Int.intBits i : Nat)) H) := by
  intro pins s σ H x xs v us Q I rx rv h
  obtain ⟨i, rfl, rfl, q⟩ := h
  obtain ⟨t, rfl⟩ := rx
  cases rv
  refine wpAny_call (codeAny_call_builtin F.slot_int_bit_length.plain F.entry_int_bit_length (F.slot_int_bit_length.check _ _ _ _ _ _ _ _ (typeIs_int s i t) (F.args_int_bit_length_1 _) (AutoIntG2.int_bit_length_int_0 i t _ _ _ (wants _ _) s ?_)))
  exact ⟨.int _, H, I.tok _, ⟨_, rfl⟩, q⟩
end
end L2
namespace L2
open PySem PySem.Spec PyProof.Rows
theorem un64 {k : Nat} {A : Around} (hr : Room k A) : A.units + 64 < cLine := hr.units
theorem passF {P : Program} {w : World} {X : Cx} : Passes (XOk P w) X (fun _ _ _ => False) := fun _ _ _ _ _ _ _ h => by
  obtain ⟨_, _, _, _, _, _, _, _, _, _, _, _, _, q⟩ := h
  exact q.elim
theorem Same.tup {K : PySem.W.Frag} {H H' : Hp} {a : Addr} {xs : List V} (e : Same H H') (h : SqT K H a xs) : SqT K H' a xs := by
  rcases h with (h | ⟨o, h⟩) | h
  · exact .inl (.inl (e _ _ h))
  · exact .inl (.inr ⟨o, e _ _ h⟩)
  · exact .inr h
theorem Same.new {H : Hp} {p : Addr} (h : H p = none) (o : HO) : Same H (upd H p o) := fun b u q => by rw [upd_ne (ne_of_none q h)]; exact q
end L2
namespace L2
open PySem PySem.Spec PyProof.Rows
theorem at_mk {K : PySem.W.Frag} {h : Heap} {mg : Str → Option Value} {x : Str} {st : Stmt} {ps : List Str} {f : Addr} {oc kV doc pm cdv ct : Value} {od an : Option Addr} {osl : Array (Option Value)} (X : K.In h) (G : h.Ns mainGlobals mg)
    (hb : ∀ (kV doc pm : Value) (an : Option Addr) (cdv ct : Value) (us : List Value), us.length = ps.length → bindArgs (PySem.W.fnOf x x (defArgs st) (defBody st) (defScope st) .none kV doc pm an cdv ct) ⟨us, []⟩ = pure (ps.zip us))
    (a : PySem.W.nsIn K mainGlobals x = some (some (.ref f))) (l : K.lookup f = some ⟨oc, od, .func (PySem.W.fnOf x x (defArgs st) (defBody st) (defScope st) .none kV doc pm an cdv ct), osl⟩) (c : PySem.W.codeIn K cdv x = true) (k : PySem.W.keepIn K (.ref f) = true) :
    At K mg x st ps [] := ⟨f, _, .none, [], fund_mk l c k, PySem.W.mg_of X G a, .all (hb kV doc pm an cdv ct), .nil⟩
end L2
namespace L2
open PySem PySem.Spec PyProof.Rows
section
variable {X : Cx} {st : Stmt} {rest : List Stmt} {t u : TS}
/-- a statement, what holds behind it, the rest -/
def tCut (M : St → Hp → Prop) (t u : TS) : TS := fun D σ H => t { D with nx := M } σ H ∧ ∀ σ' H', M σ' H' → u D σ' H'
theorem pss_cut (M : St → Hp → Prop) (h1 : PS X st t) (h2 : PSs X rest u) : PSs X (st :: rest) (tCut M t u) := by
  intro pins s σ H D I h
  refine wpAny_execs_cons (thn (h1 pins s σ H { D with nx := M } I h.1) fun f s1 q => ?_)
  cases f with
  | next =>
    obtain ⟨σ', H', I', q⟩ := q
    exact h2 pins s1 σ' H' D I' (h.2 σ' H' q)
  | ret v => exact q
  | brk => exact q
  | cont => exact q
end
/-- a number below 2 to the n-th either way -/
def Bd (n : Nat) (i : Int) : Prop := i.natAbs < 2 ^ n
theorem Bd.mul {n m : Nat} {i j : Int} (hi : Bd n i) (hj : Bd m j) : Bd (n + m) (i * j) := by
  unfold Bd at *
  rw [Int.natAbs_mul, Nat.pow_add]
  exact Nat.mul_lt_mul_of_lt_of_le hi (Nat.le_of_lt hj) (Nat.two_pow_pos m)
theorem Bd.mono {n m : Nat} {i : Int} (hi : Bd n i) (h : n ≤ m := by decide) : Bd m i := Nat.lt_of_lt_of_le hi (Nat.pow_le_pow_right (by decide) h)
theorem Bd.add {n : Nat} {i j : Int} (hi : Bd n i) (hj : Bd n j) : Bd (n + 1) (i + j) := by
  unfold Bd at *
  rw [Nat.pow_succ]
  have := Int.natAbs_add_le i j
  omega
theorem Bd.sub {n : Nat} {i j : Int} (hi : Bd n i) (hj : Bd n j) : Bd (n + 1) (i - j) := by
  unfold Bd at *
  rw [Nat.pow_succ]
  have := Int.natAbs_sub_le i j
  omega
theorem Bd.neg {n : Nat} {i : Int} (hi : Bd n i) : Bd n (-i) := by unfold Bd at *; rw [Int.natAbs_neg]; exact hi
theorem Bd.fit {n : Nat} {i : Int} (hi : Bd n i) (h : n ≤ 8000 := by decide) : Fit i := Nat.lt_of_lt_of_le hi (Nat.pow_le_pow_right (by decide) h)
theorem Bd.of {i : Int} (h1 : -1606938044258990275541962092341162602522202993782792835301376 < i) (h2 : i < 1606938044258990275541962092341162602522202993782792835301376) : Bd 200 i := by
  unfold Bd
  have e : (2 ^ 200 : Nat) = 1606938044258990275541962092341162602522202993782792835301376 := by decide
  rw [e]
  omega
theorem Fit.o {i : Int} (h1 : -1606938044258990275541962092341162602522202993782792835301376 < i) (h2 : i < 1606938044258990275541962092341162602522202993782792835301376) : Fit i := (Bd.of h1 h2).fit
end L2
/-! EXTENSION E: calls with keywords that may raise. -/
namespace L2
open PySem PySem.Spec PyProof.Rows
/-- n arguments by place, m by name -/
def gk {α : Type} (n m : Nat) (us ws : List α) : List α := if us.length = n ∧ ws.length = m then us ++ ws else []
def AtK (K : PySem.W.Frag) (mg : Str → Option Value) (x : Str) (st : Stmt) (ps ks : List Str) (n m : Nat) : Prop :=
  ∃ f fd dV, FunD K x x st f fd dV ∧ mg x = some (.ref f) ∧ KBinds K fd ps ks (gk n m) (gk n m)
def DefOkK (P : Program) (w : World) (K : PySem.W.Frag) (mg : Str → Option Value) (base : Heap) (CX : CXT) (k : Nat) (x : Str) (ps ks : List Str) (n m : Nat) (sp : Sp) : Prop :=
  ∃ f fd, FnOk P w K mg base CX k f fd ps sp ∧ mg x = some (.ref f) ∧ PySem.W.keepIn K (.ref f) = true ∧ KBinds K fd ps ks (gk n m) (gk n m)
section
variable {P : Program} {w : World} {K : PySem.W.Frag} {mg : Str → Option Value} {base : Heap}
theorem AtK.okX {x : Str} {st : Stmt} {N ps ks : List Str} {n m k : Nat} {sp : Sp} (F : AtK K mg x st ps ks n m) (S : FnScope N ps (defScope st)) (len : ∀ vs H Q E, sp vs H Q E → vs.length = ps.length)
    (hbody : ∀ (f : Addr) (cdv : Value) (A : Around) (outer : List Env) (s : Shared) (H : Hp) (vs : List V) (Q : VK) (E : XK), Room k (A.deeper (envOfC x (defScope st) s.heap.objs.size f cdv)) → sp vs H Q E →
      ∃ t, PSs (cxX P w K mg base N x (defScope st) f cdv A outer s H E) (defBody st) t ∧ t { nx := fun _ H' => Q .non H', rt := Q } (start N vs) H) : DefOkK P w K mg base (XOk P w) (k + 1) x ps ks n m sp := by
  obtain ⟨f, fd, dV, F1, hm, hb⟩ := F
  exact ⟨f, fd, F1.okX S len (hbody f), hm, F1.kp, hb⟩
end
section
variable {X : Cx} {k n m : Nat} {ps ks : List Str} {sp : Sp} {x : Str} {p pos : Pos} {e : Expr} {es : List Expr} {kws : List Keyword} {t tk : TA}
end
end L2
namespace L2
open PySem PySem.Spec PyProof.Rows
theorem ix_tupK {X : Cx} {K : PySem.W.Frag} (h : X.K = K) : IxR X (rIxT K) := h ▸ ix_tup
theorem ix_listK {X : Cx} {K : PySem.W.Frag} (h : X.K = K) : IxR X (rIxL K) := h ▸ ix_list
end L2
namespace L2
open PySem PySem.Spec PyProof.Rows
end L2
/-! EXTENSION F: readings folded. -/
namespace L2
open PySem
theorem ixT {K : PySem.W.Frag} {H : Hp} {r : Addr} {xs : List V} {i : Int} {v : V} {Q : VK} (k : SqT K H r xs) (e : atI xs i = some v) (q : Q v H) : rIxT K (.ref r) (.int i) H Q := ⟨r, xs, i, v, rfl, rfl, k, e, q⟩
theorem ixL {K : PySem.W.Frag} {H : Hp} {r : Addr} {xs : List V} {i : Int} {v : V} {Q : VK} (k : SqL K H r xs) (e : atI xs i = some v) (q : Q v H) : rIxL K (.ref r) (.int i) H Q := ⟨r, xs, i, v, rfl, rfl, k, e, q⟩
/-- the turns of a for -/
def ForG (J : It) (g : TG) (tb : TS) (D : Ends) (σ : St) (H1 : Hp) : Prop := ∃ W : Nat → Nat → St → Hp → Prop, (∃ m, W 0 m σ H1) ∧ ∀ i m σ H, W i m σ H →
  (J.stop i H ∧ D.nx σ H) ∨ (J.go i H ∧ ∃ N : St → Hp → Prop, (∀ σ' H', N σ' H' → ∃ m', m' < m ∧ W (i + 1) m' σ' H') ∧ ∀ x H', J.yld i H x H' → g x σ H' fun σ2 H2 => tb { D with nx := N, ct := N, bk := D.nx } σ2 H2)
section
variable {K : PySem.W.Frag} {ta : TA} {tl : TE} {g : TG} {tb : TS} {D : Ends} {σ : St} {H : Hp} {ix : List Nat} {tt : TT} {te : TE} {Q : VK}
theorem tFor_R1 : tFor (iRng1 ta) g tb D σ H = ta σ H fun vs H1 => ∃ j : Int, vs = [.int j] ∧ -(2 ^ 62) ≤ j ∧ j < 2 ^ 62 ∧ ForG (Itr 0 j.toNat) g tb D σ H1 := rfl
theorem tFor_R2 : tFor (iRng2 ta) g tb D σ H = ta σ H fun vs H1 => ∃ i j : Int, vs = [.int i, .int j] ∧ (-(2 ^ 62) ≤ i ∧ i < 2 ^ 62 ∧ -(2 ^ 62) ≤ j ∧ j < 2 ^ 62) ∧ ForG (Itr i (j - i).toNat) g tb D σ H1 := rfl
theorem tFor_L : tFor (iList K tl) g tb D σ H = tl σ H fun x H1 => ∃ a, x = .ref a ∧ (∃ xs, SqL K H1 a xs) ∧ ForG (Itl K a) g tb D σ H1 := rfl
theorem tFor_T : tFor (iTup K tl) g tb D σ H = tl σ H fun x H1 => ∃ a, x = .ref a ∧ (∃ xs, SqT K H1 a xs) ∧ ForG (Itt K a) g tb D σ H1 := rfl
theorem tComp_R1 : tComp (iRng1 ta) ix g tt te σ H Q = ta σ H fun vs H1 => ∃ j : Int, vs = [.int j] ∧ -(2 ^ 62) ≤ j ∧ j < 2 ^ 62 ∧ ∀ acc, H1 acc = none → CompGo (Itr 0 j.toNat) (slotsAt σ ix) g tt te acc (fun H' => Q (.ref acc) H') H1 := rfl
theorem tComp_R2 : tComp (iRng2 ta) ix g tt te σ H Q = ta σ H fun vs H1 => ∃ i j : Int, vs = [.int i, .int j] ∧ (-(2 ^ 62) ≤ i ∧ i < 2 ^ 62 ∧ -(2 ^ 62) ≤ j ∧ j < 2 ^ 62) ∧ ∀ acc, H1 acc = none → CompGo (Itr i (j - i).toNat) (slotsAt σ ix) g tt te acc (fun H' => Q (.ref acc) H') H1 := rfl
theorem tComp_L : tComp (iList K tl) ix g tt te σ H Q = tl σ H fun x H1 => ∃ a, x = .ref a ∧ (∃ xs, SqL K H1 a xs) ∧ ∀ acc, H1 acc = none → CompGo (Itl K a) (slotsAt σ ix) g tt te acc (fun H' => Q (.ref acc) H') H1 := rfl
theorem tComp_T : tComp (iTup K tl) ix g tt te σ H Q = tl σ H fun x H1 => ∃ a, x = .ref a ∧ (∃ xs, SqT K H1 a xs) ∧ ∀ acc, H1 acc = none → CompGo (Itt K a) (slotsAt σ ix) g tt te acc (fun H' => Q (.ref acc) H') H1 := rfl
theorem FoR.lst {P : Prop} {a : Addr} {xs : List V} (k : SqL K H a xs) (h : P) : (∃ xs, SqL K H a xs) ∧ P := ⟨⟨xs, k⟩, h⟩
theorem FoR.tup {P : Prop} {a : Addr} {xs : List V} (k : SqT K H a xs) (h : P) : (∃ xs, SqT K H a xs) ∧ P := ⟨⟨xs, k⟩, h⟩
/-- len -/
theorem FoR.len {P : List V → Prop} {a : Addr} {xs : List V} (k : SqL K H a xs) (h : P xs) : ∃ x, (SqL K H a x ∨ SqT K H a x) ∧ P x := ⟨xs, .inl k, h⟩
theorem FoR.lenT {P : List V → Prop} {a : Addr} {xs : List V} (k : SqT K H a xs) (h : P xs) : ∃ x, (SqL K H a x ∨ SqT K H a x) ∧ P x := ⟨xs, .inr k, h⟩
end
end L2
/-! EXTENSION G: comprehensions whose items are told. -/
namespace L2
open PySem PySem.Spec PyProof.Rows
theorem Same.keepN {H H' : Hp} {p : Addr} (h : Same H H') (n : H p = none) (o : HO) : Same H (upd H' p o) := fun b u q => by rw [upd_ne (ne_of_none q n)]; exact h b u q
theorem lt_line {n : Nat} (h : n < 1000) : n < sizeLine := Nat.lt_of_lt_of_le h (by decide)
section
variable {ρ : St} {te : TE} {tt : TT} {acc : Addr} {Z : Hp → Prop} {H1 : Hp}
theorem compR {lo : Int} {n : Nat} (f : Nat → V) (hn : n < 1000) (hacc : H1 acc = none)
    (hs : ∀ (i : Nat) (H3 : Hp) (R : V → Hp → Prop), i < n → Same H1 H3 → (∀ H4, Same H3 H4 → R (f i) H4) → te (some (.int (lo + i)) :: ρ) H3 R)
    (hd : ∀ H', Same H1 H' → H' acc = some (.lst ((List.range n).map f)) → Z H') : CompGo (Itr lo n) ρ (gName 0) tNoIf te acc Z H1 := by
  refine comp_range (fun i xs H => Same H1 H ∧ H acc = some (.lst xs) ∧ xs = (List.range i).map f) ⟨Same.new hacc _, upd_same, rfl⟩ ?_ ?_
  · rintro i xs H hi ⟨g1, g2, rfl⟩
    refine hs i H _ hi g1 fun H4 s4 => ⟨s4 _ _ g2, lt_line ?_, Same.keepN (g1.trans s4) hacc _, upd_same, ?_⟩
    · rw [List.length_map, List.length_range]
      omega
    · rw [List.range_succ, List.map_append]
      rfl
  · rintro xs H ⟨g1, g2, rfl⟩
    exact hd H g1 g2
/-- with a test -/
theorem compRif {lo : Int} {n : Nat} (f : Nat → V) (c : Nat → Bool) (hn : n < 1000) (hacc : H1 acc = none)
    (ht : ∀ (i : Nat) (H3 : Hp) (R : Bool → Hp → Prop), i < n → Same H1 H3 → (∀ H4, Same H3 H4 → R (c i) H4) → tt (some (.int (lo + i)) :: ρ) H3 R)
    (hs : ∀ (i : Nat) (H3 : Hp) (R : V → Hp → Prop), i < n → c i = true → Same H1 H3 → (∀ H4, Same H3 H4 → R (f i) H4) → te (some (.int (lo + i)) :: ρ) H3 R)
    (hd : ∀ H', Same H1 H' → H' acc = some (.lst (((List.range n).filter c).map f)) → Z H') : CompGo (Itr lo n) ρ (gName 0) tt te acc Z H1 := by
  refine ⟨fun i m xs H => (Same H1 H ∧ H acc = some (.lst xs) ∧ xs = ((List.range i).filter c).map f) ∧ i ≤ n ∧ m = n - i, ⟨n, ⟨Same.new hacc _, upd_same, rfl⟩, Nat.zero_le _, rfl⟩, ?_⟩
  rintro i m xs H ⟨⟨g1, g2, rfl⟩, hi, rfl⟩
  have hl : (((List.range i).filter c).map f).length < sizeLine := lt_line (by
    rw [List.length_map]
    have := List.length_filter_le c (List.range i)
    rw [List.length_range] at this
    omega)
  by_cases hlt : i < n
  · refine .inr ⟨hlt, (fun y H4 => y = f i ∧ c i = true ∧ Same H1 H4 ∧ H4 acc = some (.lst (((List.range i).filter c).map f))), fun H3 => c i = false ∧ Same H1 H3 ∧ H3 acc = some (.lst (((List.range i).filter c).map f)), ?_, ?_, ?_⟩
    · rintro y H4 ⟨rfl, ci, s4, a4⟩
      refine ⟨a4, hl, n - (i + 1), by omega, ⟨Same.keepN s4 hacc _, upd_same, ?_⟩, hlt, rfl⟩
      rw [List.range_succ, List.filter_append, List.map_append, List.filter_cons, if_pos ci]
      rfl
    · rintro H3 ⟨ci, s3, a3⟩
      refine ⟨n - (i + 1), by omega, ⟨s3, a3, ?_⟩, hlt, rfl⟩
      rw [List.range_succ, List.filter_append, List.map_append, List.filter_cons, if_neg (by rw [ci]; decide)]
      simp
    · rintro v0 x H' ⟨rfl, rfl⟩
      refine ⟨⟨_, rfl⟩, ht i H' _ hlt g1 fun H4 s4 => ?_⟩
      cases ci : c i with
      | true => exact if_pos rfl ▸ hs i H4 _ hlt ci (g1.trans s4) fun H5 s5 => ⟨rfl, rfl, g1.trans (s4.trans s5), s5 _ _ (s4 _ _ g2)⟩
      | false => exact ⟨rfl, g1.trans s4, s4 _ _ g2⟩
  · have : i = n := by omega
    subst this
    exact .inl ⟨Nat.le_refl _, hd H g1 g2⟩
theorem compT {K : PySem.W.Frag} {a : Addr} {zs : List V} (f : V → V) (hn : zs.length < 1000) (hacc : H1 acc = none) (hz : SqT K H1 a zs)
    (hs : ∀ (z : V) (H3 : Hp) (R : V → Hp → Prop), z ∈ zs → Same H1 H3 → (∀ H4, Same H3 H4 → R (f z) H4) → te (some z :: ρ) H3 R)
    (hd : ∀ H', Same H1 H' → H' acc = some (.lst (zs.map f)) → Z H') : CompGo (Itt K a) ρ (gName 0) tNoIf te acc Z H1 := by
  refine comp_tup (zs := zs) (fun i xs H => Same H1 H ∧ H acc = some (.lst xs) ∧ xs = (zs.take i).map f) ⟨Same.new hacc _, upd_same, rfl⟩ (fun i xs H _ h => h.1.tup hz) ?_ ?_
  · rintro i z xs H hi ⟨g1, g2, rfl⟩
    refine hs z H _ (List.mem_of_getElem? hi) g1 fun H4 s4 => ⟨s4 _ _ g2, lt_line ?_, Same.keepN (g1.trans s4) hacc _, upd_same, ?_⟩
    · rw [List.length_map, List.length_take]
      omega
    · rw [List.take_add_one, hi, List.map_append]
      rfl
  · rintro xs H ⟨g1, g2, rfl⟩
    rw [List.take_length] at g2
    exact hd H g1 g2
theorem compL {K : PySem.W.Frag} {a : Addr} {zs : List V} (f : V → V) (hn : zs.length < 1000) (hacc : H1 acc = none) (hz : SqL K H1 a zs)
    (hs : ∀ (z : V) (H3 : Hp) (R : V → Hp → Prop), z ∈ zs → Same H1 H3 → (∀ H4, Same H3 H4 → R (f z) H4) → te (some z :: ρ) H3 R)
    (hd : ∀ H', Same H1 H' → H' acc = some (.lst (zs.map f)) → Z H') : CompGo (Itl K a) ρ (gName 0) tNoIf te acc Z H1 := by
  refine comp_list (zs := zs) (fun i xs H => Same H1 H ∧ H acc = some (.lst xs) ∧ xs = (zs.take i).map f) ⟨Same.new hacc _, upd_same, rfl⟩ (fun i xs H _ h => h.1.seq hz) ?_ ?_
  · rintro i z xs H hi ⟨g1, g2, rfl⟩
    refine hs z H _ (List.mem_of_getElem? hi) g1 fun H4 s4 => ⟨s4 _ _ g2, lt_line ?_, Same.keepN (g1.trans s4) hacc _, upd_same, ?_⟩
    · rw [List.length_map, List.length_take]
      omega
    · rw [List.take_add_one, hi, List.map_append]
      rfl
  · rintro xs H ⟨g1, g2, rfl⟩
    rw [List.take_length] at g2
    exact hd H g1 g2
end
end L2
/-! EXTENSION H: == and != of lists and tuples of ints, and of lists of such. -/
namespace L2
open PySem PySem.Spec PyProof.Rows
section
variable {K : PySem.W.Frag} {H : Hp} {a b : Addr} {Q : VK}
theorem shapedT (ns : List Int) : SeqAt.shaped (.tuple (ns.map PyData.int)) = true := by
  simp [SeqAt.shaped, PyData.canLay0, PyData.depth, PySem.W.ke_canLayAll0, PySem.W.ke_depthAll]
theorem eqT_ints {x y : List Int} (h1 : SqT K H a (x.map V.int)) (h2 : SqT K H b (y.map V.int)) (q : Q (.bl (decide (x = y))) H) : rEqD K false (.ref a) (.ref b) H Q :=
  ⟨.tuple (x.map PyData.int), .tuple (y.map PyData.int), .tup h1 (RdsAll.ints _), .tup h2 (RdsAll.ints _), shapedT _, shapedT _, by
    have e : PyData.eqv (.tuple (x.map PyData.int)) (.tuple (y.map PyData.int)) = decide (x = y) := PySem.W.ked_eqvAll x y
    simp only [Bool.false_eq_true, if_false, e]
    exact q⟩
theorem neT_ints {x y : List Int} (h1 : SqT K H a (x.map V.int)) (h2 : SqT K H b (y.map V.int)) (q : Q (.bl (!decide (x = y))) H) : rEqD K true (.ref a) (.ref b) H Q :=
  ⟨.tuple (x.map PyData.int), .tuple (y.map PyData.int), .tup h1 (RdsAll.ints _), .tup h2 (RdsAll.ints _), shapedT _, shapedT _, by
    have e : PyData.eqv (.tuple (x.map PyData.int)) (.tuple (y.map PyData.int)) = decide (x = y) := PySem.W.ked_eqvAll x y
    simp only [if_true, e]
    exact q⟩
/-- tuples of ints behind a row of references -/
def TupsAt (K : PySem.W.Frag) (H : Hp) (vs : List V) (nss : List (List Int)) : Prop := vs.length = nss.length ∧ ∀ (i : Nat) (v : V) (ns : List Int), vs[i]? = some v → nss[i]? = some ns → ∃ p, v = .ref p ∧ SqT K H p (ns.map V.int)
def tupD (nss : List (List Int)) : List PyData := nss.map fun ns => .tuple (ns.map PyData.int)
theorem TupsAt.nil : TupsAt K H [] [] := ⟨rfl, fun i v ns h => by simp at h⟩
theorem FoR.app {X : Prop} {L : Addr} {ps : List V} {x : V} {R : VK} (h : H L = some (.lst ps)) (hl : ps.length < sizeLine) (q : R .non (upd H L (.lst (ps ++ [x])))) : ((∃ xs, SqL K H L xs) ∨ X) ∧ rAppend (.ref L) [x] H R :=
  ⟨.inl ⟨_, SqL.of h⟩, L, ps, x, rfl, rfl, h, hl, q⟩
end
end L2
/-! EXTENSION I: sum and min of a list of ints. -/
namespace L2
open PySem PySem.Spec PyProof.Rows
theorem call_sum {X : Cx} (hc : X.calm = true) : CallR X (.builtin "sum") (fun xs H Q => ∃ (a : Addr) (ns : List Int), xs = [.ref a] ∧ SqL X.K H a (ns.map V.int) ∧ Q (.int ns.sum) H) := by
  intro pins s σ H xs us Q I r h
  obtain ⟨a, ns, rfl, hq, q⟩ := h
  obtain ⟨u, rfl, rx⟩ := vals1 r
  cases rx
  obtain ⟨its, rv, pl, hz⟩ := I.list hq
  have ha := intsAre_of rv
  have hall : AllInts its.toArray := ha.allInts
  have hn : numsOf its = ns := ha.numsOf
  obtain ⟨ps, e⟩ := hall.items
  have hl : s.heap.IsList a (intItems ps) := by rw [← e]; exact pl.isList
  have en : ns = ps.toList.map (·.1) := by
    have z := nums_intItems ps
    rw [← e] at z
    rw [← hn]
    exact z
  refine sum_intListG (I.ok.hd hc) hl fun h' tk t' hk => ?_
  have es : preSum (numAt ps) ps.size = ns.sum := by
    rw [preSum_eq, List.take_of_length_le (by simp), en]
  rw [es]
  exact ⟨.int _, H, I.kept hk, ⟨_, rfl⟩, q⟩
end L2
namespace L2
open PySem PySem.Spec PyProof.Rows
/-- tuple(a list) -/
theorem FoR.tupOf {K : PySem.W.Frag} {H : Hp} {p : Addr} {ys : List V} {X : Prop} {R : Addr → Hp → Prop} (k : SqL K H p ys) (h : ∀ t H', Same H H' → H' t = some (.tup ys) → R t H') : ∃ ys, (SqL K H p ys ∧ ∀ l, H l = none → R l (upd H l (.tup ys))) ∨ (SqT K H p ys ∧ R p H) :=
  ⟨ys, .inl ⟨k, fun l hl => h l _ (Same.new hl _) upd_same⟩⟩
end L2
namespace L2
open PySem PySem.Spec PyProof.Rows
theorem se_tup {es : List Expr} {k : Nat} {rest : List Expr} {pos : Pos} {env : Env} : starEach (.Tuple es k pos :: rest) env = (false, eval (.Tuple es k pos) env) :: starEach rest env := by
  rw [starEach]
  intro e p h
  cases h
theorem se_con {c : Const} {k : Nat} {rest : List Expr} {pos : Pos} {env : Env} : starEach (.Constant c k pos :: rest) env = (false, eval (.Constant c k pos) env) :: starEach rest env := by
  rw [starEach]
  intro e p h
  cases h
theorem se_un {op : UnaryOp} {a : Expr} {rest : List Expr} {pos : Pos} {env : Env} : starEach (.UnaryOp op a pos :: rest) env = (false, eval (.UnaryOp op a pos) env) :: starEach rest env := by
  rw [starEach]
  intro e p h
  cases h
theorem se_nam {x : Str} {rest : List Expr} {pos : Pos} {env : Env} : starEach (.Name x pos :: rest) env = (false, eval (.Name x pos) env) :: starEach rest env := by
  rw [starEach]
  intro e p h
  cases h
theorem se_cal {a : Expr} {es : List Expr} {ks : List Keyword} {rest : List Expr} {pos : Pos} {env : Env} : starEach (.Call a es ks pos :: rest) env = (false, eval (.Call a es ks pos) env) :: starEach rest env := by
  rw [starEach]
  intro e p h
  cases h
theorem se_bin {a b : Expr} {op : Operator} {rest : List Expr} {pos : Pos} {env : Env} : starEach (.BinOp a op b pos :: rest) env = (false, eval (.BinOp a op b pos) env) :: starEach rest env := by
  rw [starEach]
  intro e p h
  cases h
theorem se_sub {a b : Expr} {rest : List Expr} {pos : Pos} {env : Env} : starEach (.Subscript a b pos :: rest) env = (false, eval (.Subscript a b pos) env) :: starEach rest env := by
  rw [starEach]
  intro e p h
  cases h
theorem se_cmp {a : Expr} {gs : List Comprehension} {sc : Scope} {rest : List Expr} {pos : Pos} {env : Env} : starEach (.ListComp a gs sc pos :: rest) env = (false, eval (.ListComp a gs sc pos) env) :: starEach rest env := by
  rw [starEach]
  intro e p h
  cases h
theorem se_cmpr {a : Expr} {os : List CmpOp} {es : List Expr} {rest : List Expr} {pos : Pos} {env : Env} : starEach (.Compare a os es pos :: rest) env = (false, eval (.Compare a os es pos) env) :: starEach rest env := by
  rw [starEach]
  intro e p h
  cases h
end L2
/-! EXTENSION J: the promises as structures (a text that begins with a long list of written tuples is else run while it is read). -/
namespace L2
open PySem PySem.Spec PyProof.Rows
structure WE (X : Cx) (e : Expr) (t : TE) : Prop where
  h : PE X e t
structure WA (X : Cx) (es : List Expr) (t : TA) : Prop where
  h : PA X es t
structure WS (X : Cx) (st : Stmt) (t : TS) : Prop where
  h : PS X st t
structure WSs (X : Cx) (st : List Stmt) (t : TS) : Prop where
  h : PSs X st t
section
variable {X : Cx} {pos : Pos}
end
section
variable {P : Program} {w : World} {K : PySem.W.Frag} {mg : Str → Option Value} {base : Heap}
end
end L2
/-! EXTENSION K: xs[:c] = ys. -/
namespace L2
open PySem PySem.Spec PyProof.Rows
section
variable {prog : Program} {w : World} {A : Around} {E : Value → Shared → Prop} {s : Shared}
end
section
variable {X : Cx} {pos p2 : Pos}
def gSl0 (to : TE) (tl th : TO) : TG := fun v σ H Q => to σ H fun o H1 => tl σ H1 fun lo H2 => th σ H2 fun hi H3 => lo = none ∧ ∃ (c : Nat) (l b : Addr) (xs ys : List V), hi = some (c : Int) ∧ o = .ref l ∧ v = .ref b ∧ l ≠ b ∧ H3 l = some (.lst xs) ∧ H3 b = some (.lst ys) ∧ c ≤ xs.length ∧ xs.length + ys.length ≤ sizeLine ∧ Q σ (upd H3 l (.lst (ys ++ xs.drop c)))
end
end L2
namespace L2
open PySem PySem.Spec PyProof.Rows
section
variable {ρ : St} {te : TE} {tt : TT} {acc : Addr} {Z : Hp → Prop} {H1 : Hp}
end
end L2
/-! EXTENSION L: comprehensions whose items are references of which something is known, and filters by place. -/
namespace L2
open PySem PySem.Spec PyProof.Rows
section
variable {X : Cx}
theorem op_neDK {K : PySem.W.Frag} (h : X.K = K) (hu : X.A.units + 64 < cLine) : OpR X (compareOp .NotEq) (rEqD K true) := h ▸ op_neD hu
end
section
variable {ρ : St} {te : TE} {tt : TT} {acc : Addr} {Z : Hp → Prop} {H1 : Hp}
/-- all tuples stay -/
def SameT (H H' : Hp) : Prop := ∀ a xs, H a = some (.tup xs) → H' a = some (.tup xs)
theorem Same.t {H H' : Hp} (s : Same H H') : SameT H H' := fun a xs h => s a _ h
theorem SameT.trans {H H' J : Hp} (s : SameT H H') (t : SameT H' J) : SameT H J := fun a xs h => t a xs (s a xs h)
theorem SameT.refl (H : Hp) : SameT H H := fun _ _ h => h
theorem SameT.upd {H : Hp} {a : Addr} {xs ys : List V} (h : H a = some (.lst xs)) : SameT H (upd H a (.lst ys)) := fun b zs hb => by
  have ne : b ≠ a := fun e => by
    subst e
    rw [h] at hb
    cases hb
  rw [upd_ne ne]
  exact hb
def Stab (p : Nat → V → Hp → Prop) : Prop := ∀ i y H H', p i y H → SameT H H' → p i y H'
theorem snocP {p : Nat → V → Hp → Prop} {xs : List V} {y : V} {i : Nat} {H : Hp} (hl : xs.length = i) (hp : ∀ j z, xs[j]? = some z → p j z H) (py : p i y H) : ∀ j z, (xs ++ [y])[j]? = some z → p j z H := fun j z hz => by
  by_cases cj : j < xs.length
  · rw [List.getElem?_append_left cj] at hz
    exact hp j z hz
  · have cj2 : j < (xs ++ [y]).length := (List.getElem?_eq_some_iff.mp hz).1
    rw [List.length_append] at cj2
    have e : j = i := by
      have : j < xs.length + 1 := cj2
      omega
    subst e
    rw [List.getElem?_append_right (by omega), hl, Nat.sub_self] at hz
    cases hz
    exact py
theorem compRq {lo : Int} {n : Nat} (p : Nat → V → Hp → Prop) (st : Stab p) (hn : n < 1000) (hacc : H1 acc = none)
    (hs : ∀ (i : Nat) (H3 : Hp) (R : V → Hp → Prop), i < n → Same H1 H3 → (∀ y H4, Same H3 H4 → p i y H4 → R y H4) → te (some (.int (lo + i)) :: ρ) H3 R)
    (hd : ∀ ys H', Same H1 H' → H' acc = some (.lst ys) → ys.length = n → (∀ i y, ys[i]? = some y → p i y H') → Z H') : CompGo (Itr lo n) ρ (gName 0) tNoIf te acc Z H1 := by
  refine comp_range (fun i xs H => Same H1 H ∧ H acc = some (.lst xs) ∧ xs.length = i ∧ ∀ j y, xs[j]? = some y → p j y H) ⟨Same.new hacc _, upd_same, rfl, fun j y h => by simp at h⟩ ?_ ?_
  · rintro i xs H hi ⟨g1, g2, hl, hp⟩
    refine hs i H _ hi g1 fun y H4 s4 py => ⟨s4 _ _ g2, lt_line (by omega), Same.keepN (g1.trans s4) hacc _, upd_same, ?_, ?_⟩
    · rw [List.length_append, hl]
      rfl
    · have u := SameT.upd (ys := xs ++ [y]) (s4 _ _ g2)
      exact snocP hl (fun j z hz => st _ _ _ _ (hp j z hz) (s4.t.trans u)) (st _ _ _ _ py u)
  · rintro xs H ⟨g1, g2, hl, hp⟩
    exact hd xs H g1 g2 hl hp
theorem compLq {K : PySem.W.Frag} {a : Addr} {zs : List V} (p : Nat → V → Hp → Prop) (st : Stab p) (hn : zs.length < 1000) (hacc : H1 acc = none) (hz : SqL K H1 a zs)
    (hs : ∀ (i : Nat) (z : V) (H3 : Hp) (R : V → Hp → Prop), zs[i]? = some z → Same H1 H3 → (∀ y H4, Same H3 H4 → p i y H4 → R y H4) → te (some z :: ρ) H3 R)
    (hd : ∀ ys H', Same H1 H' → H' acc = some (.lst ys) → ys.length = zs.length → (∀ i y, ys[i]? = some y → p i y H') → Z H') : CompGo (Itl K a) ρ (gName 0) tNoIf te acc Z H1 := by
  refine comp_list (zs := zs) (fun i xs H => Same H1 H ∧ H acc = some (.lst xs) ∧ xs.length = i ∧ ∀ j y, xs[j]? = some y → p j y H) ⟨Same.new hacc _, upd_same, rfl, fun j y h => by simp at h⟩ (fun i xs H _ h => h.1.seq hz) ?_ ?_
  · rintro i z xs H hi ⟨g1, g2, hl, hp⟩
    have hlt := (List.getElem?_eq_some_iff.mp hi).1
    refine hs i z H _ hi g1 fun y H4 s4 py => ⟨s4 _ _ g2, lt_line (by omega), Same.keepN (g1.trans s4) hacc _, upd_same, ?_, ?_⟩
    · rw [List.length_append, hl]
      rfl
    · have u := SameT.upd (ys := xs ++ [y]) (s4 _ _ g2)
      exact snocP hl (fun j z hz => st _ _ _ _ (hp j z hz) (s4.t.trans u)) (st _ _ _ _ py u)
  · rintro xs H ⟨g1, g2, hl, hp⟩
    exact hd xs H g1 g2 hl hp
theorem compLif {K : PySem.W.Frag} {a : Addr} {zs : List V} (f : Nat → V) (c : Nat → Bool) (hn : zs.length < 1000) (hacc : H1 acc = none) (hz : SqL K H1 a zs)
    (ht : ∀ (i : Nat) (z : V) (H3 : Hp) (R : Bool → Hp → Prop), zs[i]? = some z → Same H1 H3 → (∀ H4, Same H3 H4 → R (c i) H4) → tt (some z :: ρ) H3 R)
    (hs : ∀ (i : Nat) (z : V) (H3 : Hp) (R : V → Hp → Prop), zs[i]? = some z → c i = true → Same H1 H3 → (∀ H4, Same H3 H4 → R (f i) H4) → te (some z :: ρ) H3 R)
    (hd : ∀ H', Same H1 H' → H' acc = some (.lst (((List.range zs.length).filter c).map f)) → Z H') : CompGo (Itl K a) ρ (gName 0) tt te acc Z H1 := by
  refine ⟨fun i m xs H => (Same H1 H ∧ H acc = some (.lst xs) ∧ xs = ((List.range i).filter c).map f) ∧ i ≤ zs.length ∧ m = zs.length - i, ⟨zs.length, ⟨Same.new hacc _, upd_same, rfl⟩, Nat.zero_le _, rfl⟩, ?_⟩
  rintro i m xs H ⟨⟨g1, g2, rfl⟩, hi, rfl⟩
  have sq := g1.seq hz
  have hl : (((List.range i).filter c).map f).length < sizeLine := lt_line (by
    rw [List.length_map]
    have := List.length_filter_le c (List.range i)
    rw [List.length_range] at this
    omega)
  by_cases hlt : i < zs.length
  · have ez : zs[i]? = some zs[i] := List.getElem?_eq_getElem hlt
    refine .inr ⟨⟨zs, zs[i], sq, ez⟩, (fun y H4 => y = f i ∧ c i = true ∧ Same H1 H4 ∧ H4 acc = some (.lst (((List.range i).filter c).map f))), fun H3 => c i = false ∧ Same H1 H3 ∧ H3 acc = some (.lst (((List.range i).filter c).map f)), ?_, ?_, ?_⟩
    · rintro y H4 ⟨rfl, ci, s4, a4⟩
      refine ⟨a4, hl, zs.length - (i + 1), by omega, ⟨Same.keepN s4 hacc _, upd_same, ?_⟩, hlt, rfl⟩
      rw [List.range_succ, List.filter_append, List.map_append, List.filter_cons, if_pos ci]
      rfl
    · rintro H3 ⟨ci, s3, a3⟩
      refine ⟨zs.length - (i + 1), by omega, ⟨s3, a3, ?_⟩, hlt, rfl⟩
      rw [List.range_succ, List.filter_append, List.map_append, List.filter_cons, if_neg (by rw [ci]; decide)]
      simp
    · rintro v0 x H' ⟨rfl, hx⟩
      have ex : x = zs[i] := by
        have z := hx zs sq
        rw [ez] at z
        exact (Option.some.inj z).symm
      subst ex
      refine ⟨⟨_, rfl⟩, ht i _ H' _ ez g1 fun H4 s4 => ?_⟩
      cases ci : c i with
      | true => exact if_pos rfl ▸ hs i _ H4 _ ez ci (g1.trans s4) fun H5 s5 => ⟨rfl, rfl, g1.trans (s4.trans s5), s5 _ _ (s4 _ _ g2)⟩
      | false => exact ⟨rfl, g1.trans s4, s4 _ _ g2⟩
  · have : i = zs.length := by omega
    subst this
    exact .inl ⟨⟨zs, sq, Nat.le_refl _⟩, hd H g1 g2⟩
end
end L2
/-! EXTENSION M: texts: walked, compared, repeated, cut; a def without parameters. -/
namespace L2
open PySem PySem.Spec PyProof.Rows
section
variable {X : Cx} {tg : Expr}
def Asc (x : Str) : Prop := (x.cps.all fun c => decide (c < 128)) = true
/-- the signs of a text -/
def Its (x : Str) : It := ⟨fun i _ => i < x.cps.size, fun i H v H' => H' = H ∧ ∃ c, x.cps[i]? = some c ∧ v = .str ⟨#[c]⟩, fun i _ => x.cps.size ≤ i⟩
def iStr (tl : TE) : TI := fun σ H R => tl σ H fun v H1 => ∃ x, v = .str x ∧ Asc x ∧ R (Its x) H1
end
section
variable {X : Cx} {e : Expr} {lo hi : Option Expr} {te : TE} {tl th : TO} {pos p2 : Pos}
def rSlS : V → Option Int → Option Int → Hp → VK → Prop := fun x l u H Q => ∃ z, x = .str z ∧ z.length ≤ sizeLine ∧ (l = none ∧ u ≠ none ∨ l ≠ none ∧ u = none) ∧ Q (.str (Txt.slice z l u)) H
end
section
variable {X : Cx} {CX : CXT} {k : Nat} {x : Str} {ps : List Str} {dvs : List V} {sp : Sp} {E : XK} {p pos : Pos}
end
section
variable {tl : TE} {g : TG} {tb : TS} {D : Ends} {σ : St} {H : Hp} {ix : List Nat} {tt : TT} {te : TE} {Q : VK}
theorem tFor_S : tFor (iStr tl) g tb D σ H = tl σ H fun v H1 => ∃ x, v = .str x ∧ Asc x ∧ ForG (Its x) g tb D σ H1 := rfl
theorem tComp_S : tComp (iStr tl) ix g tt te σ H Q = tl σ H fun v H1 => ∃ x, v = .str x ∧ Asc x ∧ ∀ acc, H1 acc = none → CompGo (Its x) (slotsAt σ ix) g tt te acc (fun H' => Q (.ref acc) H') H1 := rfl
end
section
variable {ρ : St} {te : TE} {acc : Addr} {Z : Hp → Prop} {H1 : Hp}
end
end L2
namespace L2
open PySem PySem.Spec PyProof.Rows
theorem lri_len : typeLookup (.type "list_reverseiterator") "__len__" = pure none := by with_unfolding_all rfl
theorem lri_hint : typeLookup (.type "list_reverseiterator") "__length_hint__" = pure (some (.builtin "list_reverseiterator.__length_hint__")) := by with_unfolding_all rfl
theorem hint_rev {M : Model} {A : Around} {E : Value → Shared → Prop} {s : Shared} {Q : Bool → Shared → Prop} {I l : Addr} {i : Int} (h : s.heap.IsRevIter I l i) (q : Q false s) : wpAny M A (Builtin.List.listLengthHint (.ref I)) Q E s := by
  obtain ⟨o, ho, hc, hd⟩ := h
  have ty : s.TypeIs (.ref I) "list_reverseiterator" := ⟨o, ho, hc⟩
  unfold Builtin.List.listLengthHint
  refine wpAny_bind (wpAny_specialOf ty lri_len ?_)
  dsimp only
  refine wpAny_ite_split (fun c => absurd c (by decide)) fun _ => ?_
  refine wpAny_ite_split (fun c => absurd c (by decide)) fun _ => ?_
  refine wpAny_bind (wpAny_specialOf ty lri_hint ?_)
  dsimp only
  have sp : splitId "list_reverseiterator.__length_hint__" = some ("list_reverseiterator", "__length_hint__") := by decide +kernel
  rw [sp]
  dsimp only
  refine wpAny_bind (wpAny_isInstance (b := true) ty (by with_unfolding_all rfl) ?_)
  refine wpAny_ite_split (fun c => absurd c (by decide)) fun _ => ?_
  refine wpAny_ite_split (fun c => ?_) fun c => absurd c (by decide)
  refine wpAny_ite_split (fun c => absurd c (by decide)) fun _ => ?_
  exact wpAny_pure q









theorem extend_rev {prog : Program} {w : World} {A : Around} {s : Shared} {R : Result → Shared → Prop} {I l : Addr} {items : Array Value} (hh : A.handled = none) (hne : l ≠ I) (S : Addr) (res : Value) (c₀ : Nat) (hI : s.heap.IsRevIter I l ((items.size : Int) - 1)) (hl : s.heap.IsList l items) (hS : S ≠ I) (hSl : S ≠ l)
    (e : s.heap.get? S = some { cls := .type "list", data := .seq #[] c₀ }) (hz : items.size ≤ sizeLine)
    (q : ∀ (h' : Heap) (tk : Nat) (acc' : Array Value) (c' : Nat), (∀ b o, b ≠ S → b ≠ I → s.heap.get? b = some o → h'.get? b = some o) → h'.get? S = some { cls := .type "list", data := .seq acc' c' } → ItemsOf (fun i v => items[items.size - 1 - i]? = some v) acc' items.size → R (.ok (.ret res)) { s with heap := h', toks := tk }) :
    wpAny (model prog w) A.in1 (Builtin.List.listExtendWith (.ref S) (.ref I) res)
      (fun fin s' => match fin with | .done f => R (.ok f) s' | .again c' => c'.quiet = true ∧ codeAny (model prog w) A c' R s') (fun e s' => R (.error e) s') s := by
  obtain ⟨o, ho, hc, hd⟩ := id hI
  have ty : s.TypeIs (.ref I) "list_reverseiterator" := ⟨o, ho, hc⟩
  unfold Builtin.List.listExtendWith
  refine wpAny_bind (wpAny_typeOf ty ?_)
  refine wpAny_ite_split (fun c => ?_) fun _ => ?_
  · exfalso
    have e1 : Builtin.List.listSameRef (.ref S) (.ref I) = false := by
      simp [Builtin.List.listSameRef, hS]
    rw [e1] at c
    revert c
    decide
  refine wpAny_bind (wpAny_pyIter_revIter hI ?_)
  refine wpAny_bind (wpAny_holding (hint_rev hI ?_))
  refine wpAny_ite_split (fun c => absurd c (by decide)) fun _ => ?_
  have W := (Walks.listRev (prog := prog) (w := w) (A := A.in1) hh I l hne items).toS
  refine wpAny_pure ⟨plainId_quiet F.plain_extend_loop _, ?_⟩
  refine codeAny_extend_loopS W hz S (by simp [hS, hSl]) res items.size 0 s #[] c₀ rfl (Nat.zero_le _) ⟨Nat.zero_le _, by simpa using hI, hl⟩ e ⟨rfl, fun j v h => by simp at h⟩ fun s' acc' c' mv e' it => ?_
  have eq := Moved.eq_with mv
  rw [eq]
  exact q s'.heap s'.toks acc' c' (fun b o h1 h2 e => mv.heap b o (by simp [h1, h2]) e) e' it






theorem init_rev {prog : Program} {w : World} {A : Around} {s : Shared} {R : Result → Shared → Prop} {I l : Addr} {items : Array Value} (hh : A.handled = none) (hne : l ≠ I) (S : Addr) (hI : s.heap.IsRevIter I l ((items.size : Int) - 1)) (hl : s.heap.IsList l items) (hS : S ≠ I) (hSl : S ≠ l)
    (e : s.heap.get? S = some { cls := .type "list", data := .seq #[] }) (hz : items.size ≤ sizeLine)
    (q : ∀ (h' : Heap) (tk : Nat) (acc' : Array Value) (c' : Nat), (∀ b o, b ≠ S → b ≠ I → s.heap.get? b = some o → h'.get? b = some o) → h'.get? S = some { cls := .type "list", data := .seq acc' c' } → ItemsOf (fun i v => items[items.size - 1 - i]? = some v) acc' items.size → R (.ok (.ret .none)) { s with heap := h', toks := tk }) :
    wpAny (model prog w) A.in1 (Builtin.«list.__init__» { pos := [.ref S, .ref I] })
      (fun fin s' => match fin with | .done f => R (.ok f) s' | .again c' => c'.quiet = true ∧ codeAny (model prog w) A c' R s') (fun e s' => R (.error e) s') s := by
  unfold Builtin.«list.__init__»
  dsimp only
  refine wpAny_ite_split (fun c => absurd c (by decide)) fun _ => ?_
  refine wpAny_ite_split (fun c => absurd c (by simp)) fun _ => ?_
  refine wpAny_bind (wpAny_bind (wpAny_seqItems e rfl (wpAny_pure ?_)))
  refine wpAny_bind (wpAny_updateSeq e rfl ?_ (by simp) (by simp))
  refine wpAny_bind (wpAny_letGo ?_)
  have eS := Heap.get?_update_self (Obj.mapSeq fun _ => (#[] : Array Value)) e rfl
  have eO : ∀ b, b ≠ S → (s.heap.update S (Obj.mapSeq fun _ => (#[] : Array Value))).get? b = s.heap.get? b := fun b hb => Heap.get?_update_other s.heap _ (Ne.symm hb)
  obtain ⟨o, ho, hc, hd⟩ := hI
  obtain ⟨o2, ho2, hc2, n2, hd2⟩ := hl
  refine extend_rev (s := { s with heap := s.heap.update S (Obj.mapSeq fun _ => (#[] : Array Value)) }) (items := items) hh hne S .none _ ⟨o, (eO I (Ne.symm hS)).trans ho, hc, hd⟩ ⟨o2, (eO l (Ne.symm hSl)).trans ho2, hc2, n2, hd2⟩ hS hSl eS hz fun h' tk acc' c' k e' it => ?_
  exact q h' tk acc' c' (fun b o h1 h2 hb => k b o h1 h2 ((eO b h1).trans hb)) e' it

theorem call_list_rev {prog : Program} {w : World} {A : Around} {E : Value → Shared → Prop} {s : Shared} {Q : Value → Shared → Prop} {I l : Addr} {items : Array Value} (hh : A.handled = none) (hne : l ≠ I) (hI : s.heap.IsRevIter I l ((items.size : Int) - 1)) (hl : s.heap.IsList l items) (hz : items.size ≤ sizeLine)
    (q : ∀ (h' : Heap) (tk : Nat) (acc' : Array Value) (c' : Nat), (∀ b o, b ≠ I → s.heap.get? b = some o → h'.get? b = some o) → h'.get? s.heap.objs.size = some { cls := .type "list", data := .seq acc' c' } → ItemsOf (fun i v => items[items.size - 1 - i]? = some v) acc' items.size → Q (.ref s.heap.objs.size) { s with heap := h', toks := tk }) :
    wpAny (model prog w) A (call (.type "list") [.ref I]) Q E s := by
  obtain ⟨o, ho, hc, hd⟩ := hI
  obtain ⟨o2, ho2, hc2, n2, hd2⟩ := hl
  have n1 : s.heap.objs.size ≠ I := Ne.symm (Nat.ne_of_lt (Heap.lt_size ho))
  have n2' : s.heap.objs.size ≠ l := Ne.symm (Nat.ne_of_lt (Heap.lt_size ho2))
  refine callType_codes F.called_list (F.typeCall_list_1 _) F.entry_list_init (Q₁ := fun obj s₁ => obj = .ref s.heap.objs.size ∧ s₁ = { s with heap := s.heap.push { cls := .type "list", data := .seq #[] } }) (code_list_new _ ⟨rfl, rfl⟩) ?_
  rintro obj s₁ ⟨rfl, rfl⟩
  have eS : (s.heap.push { cls := .type "list", data := .seq #[] }).get? s.heap.objs.size = some { cls := .type "list", data := .seq #[] } := Heap.get?_push_size _ rfl
  refine ⟨⟨_, eS, rfl⟩, F.args_list_init_2 _ _, ?_⟩
  refine init_rev (A := A.in1) (s := { s with heap := s.heap.push { cls := .type "list", data := .seq #[] } }) (items := items) hh hne s.heap.objs.size ⟨o, Heap.get?_push_of_some _ ho, hc, hd⟩ ⟨o2, Heap.get?_push_of_some _ ho2, hc2, n2, hd2⟩ n1 n2' eS hz fun h' tk acc' c' k e' it => ?_
  exact ⟨rfl, q h' tk acc' c' (fun b o h1 hb => k b o (Nat.ne_of_lt (Heap.lt_size hb)) h1 (Heap.get?_push_of_some _ hb)) e' it⟩
theorem Vals.app {xs ys : List V} {us vs : List Value} (h : Vals xs us) (k : Vals ys vs) : Vals (xs ++ ys) (us ++ vs) := by
  induction h with
  | nil => exact k
  | cons r _ ih => exact .cons r ih
theorem Vals.rev {xs : List V} {us : List Value} (h : Vals xs us) : Vals xs.reverse us.reverse := by
  induction h with
  | nil => exact .nil
  | cons r _ ih =>
    rw [List.reverse_cons, List.reverse_cons]
    exact Vals.app ih (.cons r .nil)
theorem items_rev {items acc : Array Value} (h : ItemsOf (fun i v => items[items.size - 1 - i]? = some v) acc items.size) : acc.toList = items.toList.reverse := by
  obtain ⟨h1, h2⟩ := h
  refine List.ext_getElem? fun i => ?_
  by_cases hi : i < items.size
  · have e : acc[i]? = some acc[i] := Array.getElem?_eq_getElem (by omega)
    have z := h2 i _ e
    rw [List.getElem?_reverse (by rw [Array.length_toList]; exact hi), Array.length_toList, Array.getElem?_toList, Array.getElem?_toList, e, z]
  · rw [List.getElem?_eq_none (by rw [Array.length_toList]; omega), List.getElem?_eq_none (by rw [List.length_reverse, Array.length_toList]; omega)]
section
variable {X : Cx} {e : Expr} {te : TE} {p p' pos pos' : Pos}
def tListRev (K : PySem.W.Frag) (te : TE) : TE := fun σ H Q => te σ H fun x H1 => ∃ a ys, x = .ref a ∧ SqL K H1 a ys ∧ ∀ l, H1 l = none → Q (.ref l) (upd H1 l (.lst ys.reverse))
theorem pe_listRev (hc : X.calm = true) (hg : Gl X "list") (hm : X.mg "list" = none) (hg' : Gl X "reversed") (hm' : X.mg "reversed" = none) (he : PE X e te)
    (h1 : starEach [e] X.env = [(false, eval e X.env)] := by rfl) (h2 : starEach [.Call (.Name "reversed" p') [e] [] pos'] X.env = [(false, eval (.Call (.Name "reversed" p') [e] [] pos') X.env)] := by rfl) :
    PE X (.Call (.Name "list" p) [.Call (.Name "reversed" p') [e] [] pos'] [] pos) (tListRev X.K te) := by
  intro pins s σ H Q I h
  refine wpAny_Call_Name_kw (ld_blt I hg hm boot_list ?_)
  refine PyProof.Rows.callWith_type1 ?_ h2 rfl
  rw [h2]
  show wpAny _ _ (spliced ((false, eval (.Call (.Name "reversed" p') [e] [] pos') X.env) :: [])) _ _ s
  refine Calls.spliced_cons ?_
  refine wpAny_Call_Name_kw (ld_blt I hg' hm' boot_reversed ?_)
  refine PyProof.Rows.callWith_type1 ?_ h1 rfl
  rw [h1]
  show wpAny _ _ (spliced ((false, eval e X.env) :: [])) _ _ s
  refine Calls.spliced_cons (thn (he pins s σ H _ I h) fun u s1 ⟨x, H1, I1, r1, q1⟩ => ?_)
  obtain ⟨a, ys, rfl, hq, q⟩ := q1
  cases r1
  obtain ⟨its, rv, pl, hz⟩ := I1.list hq
  have hlen := rv.length
  refine Calls.spliced_nil ?_
  refine call_reversed_list pl.isList ?_
  refine Calls.spliced_nil ?_
  have hla : a < s1.heap.objs.size := by
    obtain ⟨o, ho, _⟩ := pl.isList
    exact Heap.lt_size ho
  have hl' : (s1.heap.push (revObj a ((its.toArray.size : Int) - 1))).IsList a its.toArray := by
    obtain ⟨o, ho, hc', n, hd⟩ := pl.isList
    exact ⟨o, Heap.get?_push_of_some _ ho, hc', n, hd⟩
  refine call_list_rev (I1.ok.hd hc) (Nat.ne_of_lt hla) ⟨_, Heap.get?_push_size _ rfl, rfl, rfl⟩ hl' (by rw [List.size_toArray]; omega) fun h' tk acc' c' k e' it => ?_
  have er := items_rev it
  rw [List.toList_toArray] at er
  have kp : ∀ (b : Addr) (o : Obj), s1.heap.get? b = some o → h'.get? b = some o := fun b o hb => k b o (Nat.ne_of_lt (Heap.lt_size hb)) (Heap.get?_push_of_some _ hb)
  have sz : (s1.heap.push (revObj a ((its.toArray.size : Int) - 1))).objs.size = s1.heap.objs.size + 1 := by
    unfold Heap.push
    exact Array.size_push ..
  have hle : s1.heap.objs.size ≤ (s1.heap.push (revObj a ((its.toArray.size : Int) - 1))).objs.size := by omega
  refine ⟨.ref _, _, I1.laid (t' := tk) (o := .lst ys.reverse) kp hle ?_, rfl, q _ (I1.hok.fresh hle)⟩
  refine ⟨by rw [List.length_reverse]; exact hz, its.reverse, c', rv.rev, ?_⟩
  rw [e', ← er]
end
end L2
/-! EXTENSION N: comprehensions whose target is a tuple of names; lists joined that are only read; a mutable box. -/
namespace L2
open PySem PySem.Spec PyProof.Rows
structure CompScopeM (N : List Str) (sc : Scope) (N' : List Str) (ix : List Nat) (xs0 : List Str) (r : List Str) (cs : Scope) : Prop where
  eq : N' = xs0 ++ r
  kind : cs.kind = .function
  hcell : ∀ y ∈ cs.names, y.2 ≠ .cell
  hnames : ∀ y ∈ cs.names, y.2 = .local → cs.names.lookup y.1 = some .local
  nd : (xs0 ++ r).Nodup
  fr : ∀ y ∈ cs.names, y.2 = .free → sc.names.lookup y.1 = some .cell ∨ sc.names.lookup y.1 = some .free
  ixs : Ixs N sc cs r ix
def CompGoM (J : It) (n : Nat) (ρ : St) (g : TG) (tt : TT) (te : TE) (acc : Addr) (Z : Hp → Prop) (H1 : Hp) : Prop :=
  ∃ W : Nat → Nat → List V → Hp → Prop, (∃ m, W 0 m [] (upd H1 acc (.lst []))) ∧ ∀ i m xs H, W i m xs H →
    ((J.stop i H ∧ Z H) ∨ (J.go i H ∧ ∃ (Nx : V → Hp → Prop) (Nn : Hp → Prop), (∀ y H4, Nx y H4 → H4 acc = some (.lst xs) ∧ xs.length < sizeLine ∧ ∃ m', m' < m ∧ W (i + 1) m' (xs ++ [y]) (upd H4 acc (.lst (xs ++ [y])))) ∧
      (∀ H3, Nn H3 → ∃ m', m' < m ∧ W (i + 1) m' xs H3) ∧ ∀ (v0 : St) x H', v0.length = n → J.yld i H x H' → g x (v0 ++ ρ) H' fun σ2 H2 => (∃ v : St, v.length = n ∧ σ2 = v ++ ρ) ∧ tt σ2 H2 fun b H3 => if b = true then te σ2 H3 Nx else Nn H3))
section
variable {X : Cx} {pins : List (Addr × Obj)} {σ : St} {H : Hp} {s : Shared}
theorem Inv.compOkM {N' r : List Str} {ix : List Nat} {xs0 : List Str} {cs : Scope} {cl : List (Str × Addr)} {fp : List Addr} (I : Inv X pins σ H s) (S : CompScopeM X.N X.env.scope N' ix xs0 r cs)
    (h2 : ∀ y c, cl.lookup y = some c → X.env.cells.lookup y = some c) (h3 : ∀ y, (y, NameKind.free) ∈ cs.names → ∃ c, cl.lookup y = some c) (hf : ∀ b ∈ fp, FpOk X pins H b) (hfp : ∀ b ∈ fp, b < s.heap.objs.size) :
    (compCx X N' cs cl s H fp).Ok where
  mod := I.ok.mod
  kind := S.kind
  glob := I.ok.glob
  blt := I.ok.blt
  above := Nat.le_refl _
  inj := fun a b c ha hb => I.ok.inj a b c (h2 a c ha) (h2 b c hb)
  has := fun y hy => h3 y (hy.elim (fun z => relabel_free S.hcell z (.inl rfl)) fun z => relabel_free S.hcell z (.inr rfl))
  cab := fun _ _ z => nomatch z
  hd := I.ok.hd
  frames := I.ok.frames
  stk := .inl rfl
  exf := fun b hb => ⟨Nat.ne_of_lt (hfp b hb), fun y c e => (hf b hb).2.2.2.2.1 y c (h2 y c e)⟩
  bs := I.bs
  bsz := Nat.le_trans I.ok.bsz I.sz
  noex := fun b o e hb => by
    rcases (hf b hb).2.2.2.1 with z | z
    · exact I.ok.noex b o e z
    · exact absurd (Nat.lt_of_lt_of_le (Heap.lt_size e) (Nat.le_trans I.ok.bsz z)) (Nat.lt_irrefl _)
  exfs := fun b hb hs => by
    rcases List.mem_cons.mp (I.stkSub b hs) with z | z
    · exact (hf b hb).2.1 z
    · exact (hf b hb).2.2.1 z
  funs := I.stack
  frf := I.stkFree
theorem Inv.compStartM {N' r : List Str} {ix : List Nat} {xs0 : List Str} {cs : Scope} {cl : List (Str × Addr)} {fp : List Addr} {h1 : Heap} {tk : Nat} {m : Str → Option Value} (I : Inv X pins σ H s) (S : CompScopeM X.N X.env.scope N' ix xs0 r cs)
    (h2 : ∀ y c, cl.lookup y = some c → X.env.cells.lookup y = some c) (h3 : ∀ y, (y, NameKind.free) ∈ cs.names → ∃ c, cl.lookup y = some c) (hf : ∀ b ∈ fp, FpOk X pins H b) (hfp : ∀ b ∈ fp, b < s.heap.objs.size)
    (hn : h1.Ns s.heap.objs.size m) (hk : ∀ b o, s.heap.get? b = some o → h1.get? b = some o) :
    Inv (compCx X N' cs cl s H fp) [] (List.replicate xs0.length none ++ slotsAt σ ix) H { s with heap := h1, toks := tk } := by
  have ok := I.compOkM (N' := N') (fp := fp) S h2 h3 hf hfp
  obtain ⟨mo, hno, hlo⟩ := id I.loc
  refine ⟨ok, rfl, I.bare, Un.kept hk, ⟨m, hn, fun i y v e1 e2 e3 => ?_⟩, fun y c e => ?_, I.hok.fresh (Nat.le_refl _), fun y c e => I.freeC y c (h2 y c e), fun p hp => absurd (show p ∈ ([] : List (Addr × Obj)) from hp) (by simp), I.hok.kept hk, ?_⟩
  · by_cases hi : i < xs0.length
    · rw [List.getElem?_append_left (by rw [List.length_replicate]; exact hi), List.getElem?_replicate, if_pos hi] at e2
      cases e2
    · have e1' : r[i - xs0.length]? = some y := by
        have : N'[i]? = some y := e1
        rw [S.eq, List.getElem?_append_right (by omega)] at this
        exact this
      have e2 : (slotsAt σ ix)[i - xs0.length]? = some (some v) := by
        rw [List.getElem?_append_right (by rw [List.length_replicate]; omega), List.length_replicate] at e2
        exact e2
      obtain ⟨j, j1, j2, j3, j4⟩ := S.ixs.get e1'
      obtain ⟨j', k1, k2⟩ := slotsAt_get (σ := σ) (ix := ix) (i := i - xs0.length) (v := v) e2
      rw [j1] at k1; cases k1
      obtain ⟨u, ru, lk⟩ := hlo j y v j2 k2 (j3.elim (fun z => .inr (.inl z)) fun z => .inr (.inr z))
      refine ⟨u, ru, ?_⟩
      obtain ⟨c, hc⟩ := h3 y (PySem.mem_of_lookup j4)
      rcases lk with ⟨k, _⟩ | ⟨k, c', e', z⟩
      · have k' : X.env.scope.names.lookup y = some .local := k
        rcases j3 with q | q <;> (rw [q] at k'; cases k')
      · rw [h2 y c hc] at e'
        cases e'
        refine .inr ⟨?_, c, hc, ?_⟩
        · exact lookup_relabel_free (env := X.env) j4
        · obtain ⟨o, ho, hd⟩ := z
          exact ⟨o, hk c o ho, hd⟩
  · obtain ⟨v, o, ho, hd⟩ := I.cell y c (h2 y c e)
    exact ⟨v, o, hk c o ho, hd⟩
  · show (List.replicate xs0.length none ++ slotsAt σ ix).length = N'.length
    rw [S.eq, List.length_append, List.length_append, List.length_replicate, S.ixs.len]
    unfold slotsAt
    rw [List.length_map]

theorem comp_coreM {N' r : List Str} {ix : List Nat} {xs0 : List Str} {cs : Scope} {cl : List (Str × Addr)} {tg iter elt : Expr} {ifs : List Expr} {pos : Pos} {J : It} {fp : List Addr} {it : Addr} {tn : Nat → Heap → Prop} {g : TG} {tt : TT} {te : TE} {Z : Addr → Hp → Prop}
    {RR : Value → Addr → Result → Shared → Prop} {E : Value → Shared → Prop}
    (I : Inv X pins σ H s) (hc : X.calm = true) (S : CompScopeM X.N X.env.scope N' ix xs0 r cs) (h2 : ∀ y c, cl.lookup y = some c → X.env.cells.lookup y = some c) (h3 : ∀ y, (y, NameKind.free) ∈ cs.names → ∃ c, cl.lookup y = some c)
    (T : Turn X.prog X.w X.K tg J fp it tn) (st : tn 0 s.heap) (hf : ∀ b ∈ fp, FpOk X pins H b)
    (hg : ∀ s3 H3, PG (compCx X N' cs cl s3 H3 fp) tg g) (ht : ∀ s3 H3, PTs (compCx X N' cs cl s3 H3 fp) ifs tt) (he : ∀ s3 H3, PE (compCx X N' cs cl s3 H3 fp) elt te)
    (go : ∀ acc, H acc = none → CompGoM J xs0.length (slotsAt σ ix) g tt te acc (Z acc) H)
    (fin : ∀ acc C s' H' m, Inv X pins σ H' s' → FpOk X pins H' C → s'.heap.Ns C m → Z acc H' → RR (.ref acc) C (.ok .next) s') :
    wpAny (model X.prog X.w) X.A (newList []) (fun acc s₃ => wpAny (model X.prog X.w) X.A (newFunctionEnv cs X.env.globals cl [] X.env.qual none .none (some X.env)) (fun cenv s₄ =>
      codeAny (model X.prog X.w) X.A (.compStart (.ListComp elt [⟨tg, iter, ifs, 0⟩] cs pos) 0 (.ref it) acc { cenv with scope := relabel cs X.env }) (RR acc cenv.locals) s₄) E s₃) E s := by
  refine wpAny_newObj_type (wpAny_newFunctionEnv S.hcell (by intro y hy; simp at hy) (fun h₁ hns₁ hsb₁ => ?_) S.kind)
  dsimp only at hns₁ hsb₁ ⊢
  have hfs : ∀ b ∈ fp, b < s.heap.objs.size := fun b hb => by
    obtain ⟨o, e, _⟩ := T.obj _ _ st b hb
    exact Heap.lt_size e
  have I3 : Inv X pins σ (upd H s.heap.objs.size (.lst [])) { s with heap := s.heap.push { cls := .type "list", data := .seq ([] : List Value).toArray } } := I.lnew (its := []) (t' := s.toks) .nil (Nat.zero_le _)
  have nacc : H s.heap.objs.size = none := I.fresh
  have hf3 : ∀ b ∈ fp, FpOk X pins (upd H s.heap.objs.size (.lst [])) b := fun b hb => ⟨by rw [upd_ne (Nat.ne_of_lt (hfs b hb))]; exact (hf b hb).1, (hf b hb).2⟩
  have hfs3 : ∀ b ∈ fp, b < (s.heap.push { cls := .type "list", data := .seq ([] : List Value).toArray }).objs.size := fun b hb => by
    rw [Heap.size_push]; exact Nat.lt_succ_of_lt (hfs b hb)
  generalize hs3 : ({ s with heap := s.heap.push { cls := .type "list", data := .seq ([] : List Value).toArray } } : Shared) = s3 at I3
  generalize hH3 : upd H s.heap.objs.size (.lst []) = H3 at I3 hf3
  have eh : s.heap.push { cls := .type "list", data := .seq ([] : List Value).toArray } = s3.heap := by rw [← hs3]
  rw [eh] at hns₁ hsb₁ hfs3
  have kp : ∀ b o, s3.heap.get? b = some o → h₁.get? b = some o := fun b o e => hsb₁.extBut b o (Nat.ne_of_lt (Heap.lt_size e)) (Heap.get?_push_of_some _ e)
  have I4 : Inv (compCx X N' cs cl s3 H3 fp) [] (List.replicate xs0.length none ++ slotsAt σ ix) H3 { s3 with heap := h₁, toks := s3.toks + ([] : List (Str × Value)).length } :=
    I3.compStartM S h2 h3 hf3 hfs3 hns₁ kp
  have kp2 : ∀ b o, s.heap.get? b = some o → h₁.get? b = some o := fun b o e => kp b o (by rw [← eh]; exact Heap.get?_push_of_some _ e)
  have st4 : tn 0 h₁ := T.keep _ _ _ st fun b hb o e => kp2 b o e
  obtain ⟨W, ⟨m0, w0⟩, turn⟩ := go s.heap.objs.size nacc
  rw [hH3] at w0
  have stat : ∀ {H' : Hp}, (∀ b ∈ fp, H' b = none) → ∀ b ∈ fp, FpOk (compCx X N' cs cl s3 H3 fp) [] H' b := fun hn b hb =>
    ⟨hn b hb, Nat.ne_of_lt (hfs3 b hb), fun hs => by
      rcases List.mem_cons.mp (I.stkSub b hs) with z | z
      · exact (hf b hb).2.1 z
      · exact (hf b hb).2.2.1 z, .inl hb, fun y c e => (hf b hb).2.2.2.2.1 y c (h2 y c e), fun p hp => absurd (show p ∈ ([] : List (Addr × Obj)) from hp) (by simp)⟩
  have es : s3.heap.objs.size = s.heap.objs.size + 1 := by rw [← eh, Heap.size_push]
  have loop : codeAny (model X.prog X.w) X.A (.compLoop (.ListComp elt [⟨tg, iter, ifs, 0⟩] cs pos) 0 (.ref it) (.ref s.heap.objs.size) (compCx X N' cs cl s3 H3 fp).env)
      (RR (.ref s.heap.objs.size) s3.heap.objs.size) { s3 with heap := h₁, toks := s3.toks + ([] : List (Str × Value)).length } := by
    refine compLoop_any (fun n s' => ∃ i v0 H' xs, v0.length = xs0.length ∧ Inv (compCx X N' cs cl s3 H3 fp) [] (v0 ++ slotsAt σ ix) H' s' ∧ tn i s'.heap ∧ (∀ b ∈ fp, H' b = none) ∧ W i n xs H') ?_ m0
      ⟨0, List.replicate xs0.length none, H3, [], List.length_replicate, I4, st4, fun b hb => (hf3 b hb).1, w0⟩
    rintro n s5 ⟨i, v0, H5, xs, l5, I5, st5, fr5, w5⟩
    rcases turn i n xs H5 w5 with ⟨stop, q⟩ | ⟨hgo, Nx, Nn, hNx, hNn, step⟩
    · refine thn (T.done (compCx X N' cs cl s3 H3 fp) rfl rfl rfl hc i [] s5 _ H5 _ I5 (stat fr5) st5 stop) fun r' s6 ⟨hr, I6⟩ => ?_
      subst hr
      have u : Un (frs X.stack) fp H H5 s.heap s6.heap := by
        refine Un.trans (H1 := H3) (h1 := s3.heap) ?_ I6.base
        rw [← hH3, ← eh]
        exact Un.laid (fun _ _ q => Heap.get?_push_of_some _ q) (Nat.le_refl _) nacc
      have e3 : s3.os = s.os := by rw [← hs3]
      have os6 : s6.os = s.os := I6.os.trans e3
      have J6 : Inv X pins σ H5 s6 := I.call' os6 u I6.hok I6.bare fun b hb => ⟨(hf b hb).2.2.2.1, (hf b hb).2.1, (hf b hb).2.2.2.2.1, (hf b hb).2.2.2.2.2⟩
      obtain ⟨m6, n6, _⟩ := I6.loc
      exact fin _ _ s6 H5 m6 J6 (I.fpOk (by rw [es]; exact Nat.le_succ _) I6.free) n6 q
    · refine thn (T.item (compCx X N' cs cl s3 H3 fp) rfl rfl rfl hc i [] s5 _ H5 _ I5 (stat fr5) st5 hgo) fun r' s6 ⟨u, hr, h6⟩ => ?_
      subst hr
      refine thn h6 fun _ s7 ⟨y, H7, I7, r7, y7, st7, fr7⟩ => ?_
      have I7' := I7.pinned (stat fr7) (T.obj _ _ st7)
      refine wpAny_mono (hg s3 H3 _ s7 _ H7 y u _ I7' r7 (step v0 y H7 l5 y7)) (fun _ s8 ⟨σ8, H8, I8, ⟨v8, l8, e8⟩, q8⟩ => ?_) fun _ _ z => z.elim
      subst e8
      have back : ∀ {s9 : Shared} {H9 : Hp} {m' : Nat} {xs' : List V}, Inv (compCx X N' cs cl s3 H3 fp) ([] ++ pinsAt fp s7.heap) (v8 ++ slotsAt σ ix) H9 s9 → m' < n → W (i + 1) m' xs' H9 →
          ∃ m, m < n ∧ ∃ i v0 H' xs, v0.length = xs0.length ∧ Inv (compCx X N' cs cl s3 H3 fp) [] (v0 ++ slotsAt σ ix) H' s9 ∧ tn i s9.heap ∧ (∀ b ∈ fp, H' b = none) ∧ W i m xs H' := fun {s9 H9 m' xs'} I9 hm w9 =>
        ⟨m', hm, i + 1, v8, H9, xs', l8, I9.unpinned, T.keep _ _ _ st7 fun b hb o e => (I9.pin (b, o) (List.mem_append_right _ (List.mem_append_right _ (mem_pinsAt hb e)))).1, fun b hb => by
          obtain ⟨o, e, d⟩ := T.obj _ _ st7 b hb
          exact (I9.pin (b, o) (List.mem_append_right _ (List.mem_append_right _ (mem_pinsAt hb e)))).2.1, w9⟩
      refine thn (ht s3 H3 _ _ s8 _ H8 _ (fun _ _ z => z.elim) I8 q8) fun b s9 ⟨H9, I9, q9⟩ => ?_
      cases b with
      | false =>
        rw [if_neg Bool.false_ne_true] at q9 ⊢
        obtain ⟨m', hm, w9⟩ := hNn H9 q9
        exact back I9 hm w9
      | true =>
        rw [if_pos rfl] at q9 ⊢
        refine wpAny_mono (he s3 H3 _ s9 _ H9 _ I9 q9) (fun u2 s10 ⟨y2, H10, I10, r10, q10⟩ => ?_) fun _ _ z => z.elim
        obtain ⟨a10, z10, m', hm, w10⟩ := hNx y2 H10 q10
        refine wpAny_mono (mt_append (X := compCx X N' cs cl s3 H3 fp) _ s10 _ H10 (.ref s.heap.objs.size) [y2] (.ref s.heap.objs.size) [u2] (fun _ H' => H' = upd H10 s.heap.objs.size (.lst (xs ++ [y2]))) I10 rfl (.cons r10 .nil) ⟨_, xs, y2, rfl, rfl, a10, z10, rfl⟩) (fun _ s11 ⟨_, H11, I11, _, e11⟩ => ?_) fun _ _ z => z.elim
        subst e11
        exact back I11 hm w10
  subst hs3
  exact codeAny_compStart_list loop (T.self X.A 0 _ _ _ st4 loop)
end
section
variable {X : Cx} {N' r xs0 : List Str} {ix : List Nat} {cs : Scope} {tg iter elt : Expr} {ifs : List Expr} {pos : Pos} {wi : TI} {g : TG} {tt : TT} {te : TE}
def tCompM (wi : TI) (ix : List Nat) (n : Nat) (g : TG) (tt : TT) (te : TE) : TE := fun σ H Q => wi σ H fun J H1 => ∀ acc, H1 acc = none → CompGoM J n (slotsAt σ ix) g tt te acc (fun H' => Q (.ref acc) H') H1
theorem CompScopeM.clos {sc : Scope} {N : List Str} (S : CompScopeM N sc N' ix xs0 r cs) {env : Env} (he : env.scope = sc) (has : ∀ y, (env.kindOf y = some .cell ∨ env.kindOf y = some .free) → ∃ c, env.cells.lookup y = some c) :
    ∃ cl : List (Str × Addr), closureFor cs env = pure cl ∧ (∀ y c, cl.lookup y = some c → env.cells.lookup y = some c) ∧ (∀ y, (y, NameKind.free) ∈ cs.names → ∃ c, cl.lookup y = some c) :=
  closure_ok fun y hy hk => has y.1 (by
    subst he
    exact S.fr y hy hk)
end
section
variable {K : PySem.W.Frag} {ta : TA} {tl : TE} {ix : List Nat} {n : Nat} {g : TG} {tt : TT} {te : TE} {σ : St} {H : Hp} {Q : VK}
theorem tCompM_L : tCompM (iList K tl) ix n g tt te σ H Q = tl σ H fun x H1 => ∃ a, x = .ref a ∧ (∃ xs, SqL K H1 a xs) ∧ ∀ acc, H1 acc = none → CompGoM (Itl K a) n (slotsAt σ ix) g tt te acc (fun H' => Q (.ref acc) H') H1 := rfl
end
section
variable {X : Cx}
def rCatQ (K : PySem.W.Frag) : R2 := fun x y H Q => ∃ l b xs zs, x = .ref l ∧ y = .ref b ∧ SqL K H l xs ∧ SqL K H b zs ∧ xs.length + zs.length ≤ sizeLine ∧ ∀ p, H p = none → Q (.ref p) (upd H p (.lst (xs ++ zs)))
theorem add_listsQ {prog : Program} {w : World} {A : Around} {E : Value → Shared → Prop} {s : Shared} {l b : Addr} {vs ws : List Value} {Q : Value → Shared → Prop} (h1 : s.heap.IsList l vs.toArray) (h2 : s.heap.IsList b ws.toArray) (hz : vs.length + ws.length ≤ sizeLine)
    (q : Q (.ref s.heap.objs.size) { s with heap := s.heap.push { cls := .type "list", data := .seq (vs ++ ws).toArray } }) : wpAny (model prog w) A (binaryOp .Add (.ref l) (.ref b)) Q E s := by
  obtain ⟨⟨cl, dd, da, sl⟩, ho, hc, n, hd⟩ := id h1
  obtain ⟨⟨cl2, dd2, da2, sl2⟩, ho2, hc2, n2, hd2⟩ := id h2
  simp only at hc hd hc2 hd2
  subst hc hd hc2 hd2
  have hz' : vs.toArray.size + ws.toArray.size ≤ sizeLine := by rw [List.size_toArray, List.size_toArray]; exact hz
  refine concat_meets (T := "list") ⟨_, ho, rfl⟩ ⟨_, ho2, rfl⟩ noFill_list_add seq_list_add F.slot_list_add F.entry_list_add (F.args_list_add_2 _ _) (list_addW l b vs.toArray ws.toArray n n2 dd dd2 sl sl2 hz') ⟨ho, ho2, ?_⟩
  have ea : vs.toArray ++ ws.toArray = (vs ++ ws).toArray := by simp
  rw [ea]
  exact q
theorem op_catQ : OpR X (binaryOp .Add) (rCatQ X.K) := by
  intro pins s σ H x y v u Q I rx ry h
  obtain ⟨l, b, xs, zs, rfl, rfl, hH, hB, hz, q⟩ := h
  cases rx
  cases ry
  obtain ⟨its, r, p, _⟩ := I.list hH
  obtain ⟨its2, r2, p2, _⟩ := I.list hB
  have hl := r.length
  have hl2 := r2.length
  refine add_listsQ p.isList p2.isList (by omega) ?_
  exact ⟨.ref _, _, I.lnew (t' := s.toks) (r.append r2) (by rw [List.length_append]; omega), rfl, q _ I.fresh⟩
end
theorem call_tupleL {X : Cx} : CallR X (.type "tuple") (fun xs H Q => ∃ p ys, xs = [.ref p] ∧ SqL X.K H p ys ∧ ∀ l, H l = none → Q (.ref l) (upd H l (.tup ys))) := fun pins s σ H xs us Q I r ⟨p, ys, e, k, q⟩ => call_tuple_of pins s σ H xs us Q I r ⟨p, ys, e, .inl ⟨k, q⟩⟩
theorem pg_tupK {X : Cx} {K : PySem.W.Frag} {es : List Expr} {k : Nat} {t : TGs} {n : Nat} {pos : Pos} (hK : X.K = K) (hc : X.calm = true) (h : PGs X es t)
    (hn : (assignEach es X.env).length = n := by rfl) (hst : (assignEach es X.env).findIdx? (·.1) = none := by rfl) : PG X (.Tuple es k pos) (gTup K n t) := hK ▸ pg_tup hc h hn hst
/-- all but the box at L stays -/
def SameB (L : Addr) (H H' : Hp) : Prop := ∀ b o, b ≠ L → H b = some o → H' b = some o
theorem SameB.refl (L : Addr) (H : Hp) : SameB L H H := fun _ _ _ h => h
theorem SameB.trans {L : Addr} {H H' J : Hp} (s : SameB L H H') (t : SameB L H' J) : SameB L H J := fun b o n h => t b o n (s b o n h)
theorem Same.b {L : Addr} {H H' : Hp} (s : Same H H') : SameB L H H' := fun b o _ h => s b o h
theorem SameB.acc {L acc : Addr} {H H' : Hp} {o : HO} (s : SameB L H H') (h : H acc = none) : SameB L H (upd H' acc o) := fun b u n q => by rw [upd_ne (ne_of_none q h)]; exact s b u n q
theorem SameB.box {L : Addr} {H H' : Hp} {o : HO} (s : SameB L H H') : SameB L H (upd H' L o) := fun b u n q => by rw [upd_ne n]; exact s b u n q
theorem SameB.none {L b : Addr} {H H' : Hp} (s : SameB L H H') (n : b ≠ L) (h : H' b = none) : H b = none := by
  cases e : H b with
  | none => rfl
  | some o => rw [s b o n e] at h; cases h
theorem SameB.set {L : Addr} {H : Hp} {o : HO} : SameB L H (upd H L o) := fun b u n h => by rw [upd_ne n]; exact h
end L2
/-! # xs[::-1] -/
namespace L2
open PySem PyProof.Rows PySem.Calls
section
variable {X : Cx} {e st : Expr} {te ts : TE} {pos p2 : Pos}
def tSlRev (K : PySem.W.Frag) (te ts : TE) : TE := fun σ H Q => te σ H fun x H1 => ts σ H1 fun k H2 => k = .int (-1) ∧ ∃ a xs, x = .ref a ∧ SqL K H2 a xs ∧ ∀ p, H2 p = none → Q (.ref p) (upd H2 p (.lst xs.reverse))
end
end L2
/-! # range(i, j, c) -/
namespace L2
open PySem PySem.Spec PyProof.Rows
section
variable {X : Cx} {tg : Expr}
def It3 (lo c : Int) (n : Nat) : It := ⟨fun i _ => i < n, fun i H x H' => H' = H ∧ x = .int (lo + i * c), fun i _ => n ≤ i⟩
def iRng3 (ta : TA) : TI := fun σ H R => ta σ H fun vs H1 => ∃ i j c : Int, vs = [.int i, .int j, .int c] ∧ (-(2 ^ 30) ≤ i ∧ i < 2 ^ 30 ∧ -(2 ^ 30) ≤ j ∧ j < 2 ^ 30 ∧ 1 ≤ c ∧ c < 2 ^ 30) ∧ R (It3 i c (Builtin.Range.rangeSize i j c).toNat) H1
end
section
variable {ρ : St} {te : TE} {acc : Addr} {Z : Hp → Prop} {H1 : Hp}
end
end L2
namespace L2
section
variable {K : PySem.W.Frag} {tl : TE} {ta : TA} {ix : List Nat} {g : TG} {tt : TT} {te : TE} {σ : St} {H : Hp} {Q : VK}
theorem tComp_R3 : tComp (iRng3 ta) ix g tt te σ H Q = ta σ H fun vs H1 => ∃ i j c : Int, vs = [.int i, .int j, .int c] ∧ (-(2 ^ 30) ≤ i ∧ i < 2 ^ 30 ∧ -(2 ^ 30) ≤ j ∧ j < 2 ^ 30 ∧ 1 ≤ c ∧ c < 2 ^ 30) ∧ ∀ acc, H1 acc = none → CompGo (It3 i c (PySem.Builtin.Range.rangeSize i j c).toNat) (slotsAt σ ix) g tt te acc (fun H' => Q (.ref acc) H') H1 := rfl
end
end L2
/-! EXTENSION Q: comprehensions whose own name is read by a block within (a cell of the comprehension's block). -/
namespace L2
open PySem PySem.Spec PyProof.Rows
theorem wpAny_envComp {M : Model} {A : Around} {E : Value → Shared → Prop} {s : Shared} {scope : Scope} {globals : Addr} {cl : List (Str × Addr)} {qual : Str} {env : Env} {Q : Env → Shared → Prop}
    (hQ : Q (newEnv scope s.heap.objs.size globals (cellsFrom (s.heap.objs.size + 1) scope.names cl) qual none .none (some env) builtinsNs) { s with heap := pushCells (s.heap.push { cls := .type "dict", data := .dict #[] }) scope.names }) :
    wpAny M A (newFunctionEnv scope globals cl [] qual none .none (some env)) Q E s := by
  simp only [newFunctionEnv, Option.isSome_some, if_true]
  refine wpAny_bind (wpAny_alloc ?_)
  refine wpAny_bind (wpAny_layCells _ (fun name kind cells => by cases hkc : kind == NameKind.cell <;> simp [hkc]) _ _ _ _ ?_)
  rw [show ({ s with heap := s.heap.push { cls := .type "dict", data := .dict #[] } } : Shared).heap.objs.size = s.heap.objs.size + 1 from Heap.size_push ..]
  rw [List.forIn_nil]
  exact wpAny_bind (wpAny_pure (wpAny_pure hQ))
structure CfOk (n : Nat) (cs : List (Str × Addr)) : Prop where
  lt : ∀ y c, cs.lookup y = some c → c < n
  inj : ∀ x y c, cs.lookup x = some c → cs.lookup y = some c → x = y
theorem cf_cons {n : Nat} {name : Str} {acc : List (Str × Addr)} (k : CfOk n acc) : CfOk (n + 1) ((name, n) :: acc) := by
  refine ⟨fun y c e => ?_, fun x y c e1 e2 => ?_⟩
  · rw [List.lookup_cons] at e
    cases z : y == name with
    | true => rw [z] at e; cases e; exact Nat.lt_succ_self _
    | false => rw [z] at e; exact Nat.lt_succ_of_lt (k.lt y c e)
  · rw [List.lookup_cons] at e1 e2
    cases z1 : x == name with
    | true =>
      cases z2 : y == name with
      | true => exact (beq_iff_eq.mp z1).trans (beq_iff_eq.mp z2).symm
      | false =>
        rw [z1] at e1
        rw [z2] at e2
        cases e1
        exact absurd (k.lt y _ e2) (Nat.lt_irrefl _)
    | false =>
      cases z2 : y == name with
      | true =>
        rw [z1] at e1
        rw [z2] at e2
        cases e2
        exact absurd (k.lt x _ e1) (Nat.lt_irrefl _)
      | false =>
        rw [z1] at e1
        rw [z2] at e2
        exact k.inj x y c e1 e2
theorem cf_ok : ∀ (names : List (Str × NameKind)) (h : Heap) (acc : List (Str × Addr)), CfOk h.objs.size acc → CfOk (pushCells h names).objs.size (cellsFrom h.objs.size names acc)
  | [], _, _, k => k
  | (name, kind) :: r, h, acc, k => by
    unfold pushCells cellsFrom
    split
    · have z := cf_ok r (h.push { cls := .type "cell", data := .cell none }) ((name, h.objs.size) :: acc) (by rw [Heap.size_push]; exact cf_cons k)
      rwa [Heap.size_push] at z
    · exact cf_ok r h acc k
theorem cf_from : ∀ (names : List (Str × NameKind)) (h : Heap) (acc : List (Str × Addr)) (y : Str) (c : Addr), (cellsFrom h.objs.size names acc).lookup y = some c →
    acc.lookup y = some c ∨ ((y, NameKind.cell) ∈ names ∧ h.objs.size ≤ c ∧ (pushCells h names).IsCell c none)
  | [], _, _, _, _, e => .inl e
  | (name, kind) :: r, h, acc, y, c, e => by
    unfold pushCells
    unfold cellsFrom at e
    by_cases hk : (kind == NameKind.cell) = true
    · rw [if_pos hk] at e ⊢
      rw [← Heap.size_push (h := h) (o := { cls := .type "cell", data := .cell none })] at e
      rcases cf_from r _ _ y c e with z | ⟨z1, z2, z3⟩
      · rw [List.lookup_cons] at z
        cases q : y == name with
        | true =>
          rw [q] at z
          cases z
          have e1 := beq_iff_eq.mp q
          have e2 := beq_iff_eq.mp hk
          subst e1
          subst e2
          refine .inr ⟨List.mem_cons_self, Nat.le_refl _, ⟨_, pushCells_keeps r _ _ _ (Heap.get?_push_size _ rfl), rfl⟩⟩
        | false =>
          rw [q] at z
          exact .inl z
      · rw [Heap.size_push] at z2
        exact .inr ⟨List.mem_cons_of_mem _ z1, by omega, z3⟩
    · rw [if_neg hk] at e ⊢
      rcases cf_from r h acc y c e with z | ⟨z1, z2, z3⟩
      · exact .inl z
      · exact .inr ⟨List.mem_cons_of_mem _ z1, z2, z3⟩
theorem cf_not : ∀ (names : List (Str × NameKind)) (n : Nat) (acc : List (Str × Addr)) (y : Str), (y, NameKind.cell) ∉ names → (cellsFrom n names acc).lookup y = acc.lookup y
  | [], _, _, _, _ => rfl
  | (name, kind) :: r, n, acc, y, hn => by
    unfold cellsFrom
    have hr : (y, NameKind.cell) ∉ r := fun z => hn (List.mem_cons_of_mem _ z)
    by_cases hk : (kind == NameKind.cell) = true
    · rw [if_pos hk, cf_not r _ _ y hr, List.lookup_cons]
      cases q : y == name with
      | true =>
        have e1 := beq_iff_eq.mp q
        have e2 := beq_iff_eq.mp hk
        subst e1
        subst e2
        exact absurd List.mem_cons_self hn
      | false => rfl
    · rw [if_neg hk, cf_not r _ _ y hr]
theorem cf_has : ∀ (names : List (Str × NameKind)) (n : Nat) (acc : List (Str × Addr)) (y : Str), (y, NameKind.cell) ∈ names → ∃ c, (cellsFrom n names acc).lookup y = some c ∧ n ≤ c
  | (name, kind) :: r, n, acc, y, hy => by
    unfold cellsFrom
    by_cases hr : (y, NameKind.cell) ∈ r
    · by_cases hk : (kind == NameKind.cell) = true
      · rw [if_pos hk]
        obtain ⟨c, h1, h2⟩ := cf_has r (n + 1) ((name, n) :: acc) y hr
        exact ⟨c, h1, by omega⟩
      · rw [if_neg hk]
        exact cf_has r n acc y hr
    · rcases List.mem_cons.mp hy with z | z
      · cases z
        rw [if_pos (by rfl), cf_not r _ _ _ hr, List.lookup_cons]
        exact ⟨n, by rw [beq_self_eq_true], Nat.le_refl _⟩
      · exact absurd z hr
theorem cf_some {names : List (Str × NameKind)} {n : Nat} {acc : List (Str × Addr)} {y : Str} (h : ∃ c, acc.lookup y = some c) : ∃ c, (cellsFrom n names acc).lookup y = some c := by
  by_cases hy : (y, NameKind.cell) ∈ names
  · obtain ⟨c, h1, _⟩ := cf_has names n acc y hy
    exact ⟨c, h1⟩
  · rw [cf_not names n acc y hy]
    exact h

theorem fr_of {N : List Str} {sc cs : Scope} : ∀ {r : List Str} {ix : List Nat}, Ixs N sc cs r ix → (∀ y ∈ cs.names, y.2 = .free → y.1 ∈ r) → ∀ y ∈ cs.names, y.2 = .free → sc.names.lookup y.1 = some .cell ∨ sc.names.lookup y.1 = some .free := by
  intro r ix t h y hy hk
  obtain ⟨i, hi⟩ := List.getElem?_of_mem (h y hy hk)
  obtain ⟨j, _, _, h2, _⟩ := t.get hi
  exact h2
structure CompScopeC (N : List Str) (sc : Scope) (N' : List Str) (ix : List Nat) (x : Str) (r : List Str) (cs : Scope) : Prop where
  eq : N' = x :: r
  kind : cs.kind = .function
  hown : ∀ y ∈ cs.names, y.2 = .cell → cs.names.lookup y.1 = some .cell
  hnames : ∀ y ∈ cs.names, y.2 = .local → cs.names.lookup y.1 = some .local
  nd : (x :: r).Nodup
  fr : ∀ y ∈ cs.names, y.2 = .free → sc.names.lookup y.1 = some .cell ∨ sc.names.lookup y.1 = some .free
  ixs : Ixs N sc cs r ix
theorem CompScope.nest {N : List Str} {sc : Scope} {N' : List Str} {ix : List Nat} {x : Str} {r : List Str} {cs : Scope} (eq : N' = x :: r) (kind : cs.kind = .function) (hcell : ∀ y ∈ cs.names, y.2 ≠ .cell) (hnames : ∀ y ∈ cs.names, y.2 = .local → cs.names.lookup y.1 = some .local)
    (hx : cs.names.lookup x = some .local) (nd : (x :: r).Nodup) (h : ∀ y ∈ cs.names, y.2 = .free → y.1 ∈ r) (ixs : Ixs N sc cs r ix) : CompScope N sc N' ix x r cs := ⟨eq, kind, hcell, hnames, hx, nd, fr_of ixs h, ixs⟩
theorem CompScopeC.nest {N : List Str} {sc : Scope} {N' : List Str} {ix : List Nat} {x : Str} {r : List Str} {cs : Scope} (eq : N' = x :: r) (kind : cs.kind = .function) (hown : ∀ y ∈ cs.names, y.2 = .cell → cs.names.lookup y.1 = some .cell) (hnames : ∀ y ∈ cs.names, y.2 = .local → cs.names.lookup y.1 = some .local)
    (nd : (x :: r).Nodup) (h : ∀ y ∈ cs.names, y.2 = .free → y.1 ∈ r) (ixs : Ixs N sc cs r ix) : CompScopeC N sc N' ix x r cs := ⟨eq, kind, hown, hnames, nd, fr_of ixs h, ixs⟩
theorem CompScopeM.nest {N : List Str} {sc : Scope} {N' : List Str} {ix : List Nat} {xs0 : List Str} {r : List Str} {cs : Scope} (eq : N' = xs0 ++ r) (kind : cs.kind = .function) (hcell : ∀ y ∈ cs.names, y.2 ≠ .cell) (hnames : ∀ y ∈ cs.names, y.2 = .local → cs.names.lookup y.1 = some .local)
    (nd : (xs0 ++ r).Nodup) (h : ∀ y ∈ cs.names, y.2 = .free → y.1 ∈ r) (ixs : Ixs N sc cs r ix) : CompScopeM N sc N' ix xs0 r cs := ⟨eq, kind, hcell, hnames, nd, fr_of ixs h, ixs⟩
def compCxC (X : Cx) (N' : List Str) (cs : Scope) (cl : List (Str × Addr)) (s3 : Shared) (H3 : Hp) (fp : List Addr) : Cx :=
  { X with N := N', s₀ := s3, H₀ := H3, env := compEnvC cs (cellsFrom (s3.heap.objs.size + 1) cs.names cl) s3.heap.objs.size X.env, outer := X.stack, stack := X.stack, ex := fp, fn := fun y => cs.names.lookup y == some .cell, pn := [], xe := fun _ _ => False }
theorem relabel_freeC {env : Env} {cs : Scope} {y : Str} {k : NameKind} (h : (relabel cs env).names.lookup y = some k) (hk : k = .cell ∨ k = .free) : (y, NameKind.free) ∈ cs.names ∨ (y, NameKind.cell) ∈ cs.names := by
  have m := PySem.mem_of_lookup h
  obtain ⟨⟨n, k0⟩, h1, h2⟩ := List.mem_map.mp m
  by_cases c : (k0 == NameKind.free && env.scope.kind == .function && env.kindOf n == some .cell) = true
  · have h2' : (n, NameKind.cell) = (y, k) := by rw [← h2]; exact (if_pos c).symm
    cases h2'
    have : k0 = .free := by
      have z := (Bool.and_eq_true_iff.mp (Bool.and_eq_true_iff.mp c).1).1
      exact beq_iff_eq.mp z
    rw [this] at h1
    exact .inl h1
  · have h2' : (n, k0) = (y, k) := by rw [← h2]; exact (if_neg c).symm
    cases h2'
    rcases hk with rfl | rfl
    · exact .inr h1
    · exact .inl h1

section
variable {X : Cx} {pins : List (Addr × Obj)} {σ : St} {H : Hp} {s : Shared}
/-- the facts on the cells of the block -/
theorem Inv.cfs {cs : Scope} {cl : List (Str × Addr)} (I : Inv X pins σ H s) (h2 : ∀ y c, cl.lookup y = some c → X.env.cells.lookup y = some c) :
    CfOk (pushCells (s.heap.push { cls := .type "dict", data := .dict #[] }) cs.names).objs.size (cellsFrom (s.heap.objs.size + 1) cs.names cl) ∧
    ∀ y c, (cellsFrom (s.heap.objs.size + 1) cs.names cl).lookup y = some c → X.env.cells.lookup y = some c ∨ ((y, NameKind.cell) ∈ cs.names ∧ s.heap.objs.size + 1 ≤ c ∧ (pushCells (s.heap.push { cls := .type "dict", data := .dict #[] }) cs.names).IsCell c none) := by
  have e : s.heap.objs.size + 1 = (s.heap.push { cls := .type "dict", data := .dict #[] }).objs.size := (Heap.size_push ..).symm
  rw [e]
  refine ⟨cf_ok _ _ _ ⟨fun y c q => ?_, fun a b c ha hb => I.ok.inj a b c (h2 a c ha) (h2 b c hb)⟩, fun y c q => ?_⟩
  · obtain ⟨v, o, ho, _⟩ := I.cell y c (h2 y c q)
    rw [← e]
    exact Nat.lt_succ_of_lt (Heap.lt_size ho)
  · rcases cf_from _ _ _ y c q with z | z
    · exact .inl (h2 y c z)
    · exact .inr z
theorem Inv.compOkC {N' r : List Str} {ix : List Nat} {x : Str} {cs : Scope} {cl : List (Str × Addr)} {fp : List Addr} (I : Inv X pins σ H s) (S : CompScopeC X.N X.env.scope N' ix x r cs)
    (h2 : ∀ y c, cl.lookup y = some c → X.env.cells.lookup y = some c) (h3 : ∀ y, (y, NameKind.free) ∈ cs.names → ∃ c, cl.lookup y = some c) (hf : ∀ b ∈ fp, FpOk X pins H b) (hfp : ∀ b ∈ fp, b < s.heap.objs.size) :
    (compCxC X N' cs cl s H fp).Ok where
  mod := I.ok.mod
  kind := S.kind
  glob := I.ok.glob
  blt := I.ok.blt
  above := Nat.le_refl _
  inj := (I.cfs (cs := cs) h2).1.inj
  has := fun y hy => by
    rcases hy.elim (fun z => relabel_freeC z (.inl rfl)) fun z => relabel_freeC z (.inr rfl) with z | z
    · exact cf_some (h3 y z)
    · obtain ⟨c, h, _⟩ := cf_has cs.names (s.heap.objs.size + 1) cl y z
      exact ⟨c, h⟩
  cab := fun y c hy e => by
    have z : cs.names.lookup y = some .cell := beq_iff_eq.mp hy
    obtain ⟨c', h, hl⟩ := cf_has cs.names (s.heap.objs.size + 1) cl y (PySem.mem_of_lookup z)
    have e' : (cellsFrom (s.heap.objs.size + 1) cs.names cl).lookup y = some c := e
    rw [h] at e'
    cases e'
    exact Nat.le_trans (Nat.le_succ _) hl
  hd := I.ok.hd
  frames := I.ok.frames
  stk := .inl rfl
  exf := fun b hb => ⟨Nat.ne_of_lt (hfp b hb), fun y c e => by
    rcases (I.cfs (cs := cs) h2).2 y c e with z | ⟨_, z, _⟩
    · exact (hf b hb).2.2.2.2.1 y c z
    · exact Nat.ne_of_gt (Nat.lt_of_lt_of_le (Nat.lt_succ_of_lt (hfp b hb)) z)⟩
  bs := I.bs
  bsz := Nat.le_trans I.ok.bsz I.sz
  noex := fun b o e hb => by
    rcases (hf b hb).2.2.2.1 with z | z
    · exact I.ok.noex b o e z
    · exact absurd (Nat.lt_of_lt_of_le (Heap.lt_size e) (Nat.le_trans I.ok.bsz z)) (Nat.lt_irrefl _)
  exfs := fun b hb hs => by
    rcases List.mem_cons.mp (I.stkSub b hs) with z | z
    · exact (hf b hb).2.1 z
    · exact (hf b hb).2.2.1 z
  funs := I.stack
  frf := I.stkFree
theorem Inv.compStartC {N' r : List Str} {ix : List Nat} {x : Str} {cs : Scope} {cl : List (Str × Addr)} {fp : List Addr} (I : Inv X pins σ H s) (S : CompScopeC X.N X.env.scope N' ix x r cs)
    (h2 : ∀ y c, cl.lookup y = some c → X.env.cells.lookup y = some c) (h3 : ∀ y, (y, NameKind.free) ∈ cs.names → ∃ c, cl.lookup y = some c) (hf : ∀ b ∈ fp, FpOk X pins H b) (hfp : ∀ b ∈ fp, b < s.heap.objs.size) :
    Inv (compCxC X N' cs cl s H fp) [] (none :: slotsAt σ ix) H { s with heap := pushCells (s.heap.push { cls := .type "dict", data := .dict #[] }) cs.names } := by
  have ok := I.compOkC (N' := N') (fp := fp) S h2 h3 hf hfp
  obtain ⟨mo, hno, hlo⟩ := id I.loc
  have hk : ∀ b o, s.heap.get? b = some o → (pushCells (s.heap.push { cls := .type "dict", data := .dict #[] }) cs.names).get? b = some o := fun b o e => pushCells_keeps _ _ _ _ (Heap.get?_push_of_some _ e)
  have cf := (I.cfs (cs := cs) h2).2
  refine ⟨ok, rfl, I.bare, Un.kept hk, ⟨fun _ => none, (Heap.Ns.new s.heap (.type "dict")).keeps (pushCells_keeps _ _), fun i y v e1 e2 e3 => ?_⟩, fun y c e => ?_, I.hok.fresh (Nat.le_refl _), fun y c e => ?_, fun p hp => absurd (show p ∈ ([] : List (Addr × Obj)) from hp) (by simp), I.hok.kept hk, ?_⟩
  · cases i with
    | zero => cases e2
    | succ i =>
      have e1' : r[i]? = some y := by
        have : N'[i + 1]? = some y := e1
        rw [S.eq] at this
        simpa using this
      obtain ⟨j, j1, j2, j3, j4⟩ := S.ixs.get e1'
      obtain ⟨j', k1, k2⟩ := slotsAt_get (σ := σ) (ix := ix) (i := i) (v := v) (by simpa using e2)
      rw [j1] at k1; cases k1
      obtain ⟨u, ru, lk⟩ := hlo j y v j2 k2 (j3.elim (fun z => .inr (.inl z)) fun z => .inr (.inr z))
      refine ⟨u, ru, ?_⟩
      obtain ⟨c, hc⟩ := h3 y (PySem.mem_of_lookup j4)
      rcases lk with ⟨k, _⟩ | ⟨k, c', e', z⟩
      · have k' : X.env.scope.names.lookup y = some .local := k
        rcases j3 with q | q <;> (rw [q] at k'; cases k')
      · rw [h2 y c hc] at e'
        cases e'
        refine .inr ⟨?_, c, ?_, ?_⟩
        · exact lookup_relabel_free (env := X.env) j4
        · have no : (y, NameKind.cell) ∉ cs.names := fun q => by
            have := S.hown _ q rfl
            rw [j4] at this
            cases this
          show (cellsFrom (s.heap.objs.size + 1) cs.names cl).lookup y = some c
          rw [cf_not _ _ _ y no]
          exact hc
        · obtain ⟨o, ho, hd⟩ := z
          exact ⟨o, hk c o ho, hd⟩
  · rcases cf y c e with z | ⟨_, _, z⟩
    · obtain ⟨v, o, ho, hd⟩ := I.cell y c z
      exact ⟨v, o, hk c o ho, hd⟩
    · exact ⟨none, z⟩
  · rcases cf y c e with z | ⟨_, z, _⟩
    · exact I.freeC y c z
    · exact I.hok.fresh (Nat.le_trans (Nat.le_succ _) z)
  · show (none :: slotsAt σ ix).length = N'.length
    rw [S.eq, List.length_cons, List.length_cons, S.ixs.len]
    unfold slotsAt
    rw [List.length_map]

theorem comp_coreC {N' r : List Str} {ix : List Nat} {x : Str} {cs : Scope} {cl : List (Str × Addr)} {tg iter elt : Expr} {ifs : List Expr} {pos : Pos} {J : It} {fp : List Addr} {it : Addr} {tn : Nat → Heap → Prop} {g : TG} {tt : TT} {te : TE} {Z : Addr → Hp → Prop}
    {RR : Value → Addr → Result → Shared → Prop} {E : Value → Shared → Prop}
    (I : Inv X pins σ H s) (hc : X.calm = true) (S : CompScopeC X.N X.env.scope N' ix x r cs) (h2 : ∀ y c, cl.lookup y = some c → X.env.cells.lookup y = some c) (h3 : ∀ y, (y, NameKind.free) ∈ cs.names → ∃ c, cl.lookup y = some c)
    (T : Turn X.prog X.w X.K tg J fp it tn) (st : tn 0 s.heap) (hf : ∀ b ∈ fp, FpOk X pins H b)
    (hg : ∀ s3 H3, PG (compCxC X N' cs cl s3 H3 fp) tg g) (ht : ∀ s3 H3, PTs (compCxC X N' cs cl s3 H3 fp) ifs tt) (he : ∀ s3 H3, PE (compCxC X N' cs cl s3 H3 fp) elt te)
    (go : ∀ acc, H acc = none → CompGo J (slotsAt σ ix) g tt te acc (Z acc) H)
    (fin : ∀ acc C s' H' m, Inv X pins σ H' s' → FpOk X pins H' C → s'.heap.Ns C m → Z acc H' → RR (.ref acc) C (.ok .next) s') :
    wpAny (model X.prog X.w) X.A (newList []) (fun acc s₃ => wpAny (model X.prog X.w) X.A (newFunctionEnv cs X.env.globals cl [] X.env.qual none .none (some X.env)) (fun cenv s₄ =>
      codeAny (model X.prog X.w) X.A (.compStart (.ListComp elt [⟨tg, iter, ifs, 0⟩] cs pos) 0 (.ref it) acc { cenv with scope := relabel cs X.env }) (RR acc cenv.locals) s₄) E s₃) E s := by
  refine wpAny_newObj_type (wpAny_envComp ?_)
  dsimp only
  have hfs : ∀ b ∈ fp, b < s.heap.objs.size := fun b hb => by
    obtain ⟨o, e, _⟩ := T.obj _ _ st b hb
    exact Heap.lt_size e
  have I3 : Inv X pins σ (upd H s.heap.objs.size (.lst [])) { s with heap := s.heap.push { cls := .type "list", data := .seq ([] : List Value).toArray } } := I.lnew (its := []) (t' := s.toks) .nil (Nat.zero_le _)
  have nacc : H s.heap.objs.size = none := I.fresh
  have hf3 : ∀ b ∈ fp, FpOk X pins (upd H s.heap.objs.size (.lst [])) b := fun b hb => ⟨by rw [upd_ne (Nat.ne_of_lt (hfs b hb))]; exact (hf b hb).1, (hf b hb).2⟩
  have hfs3 : ∀ b ∈ fp, b < (s.heap.push { cls := .type "list", data := .seq ([] : List Value).toArray }).objs.size := fun b hb => by
    rw [Heap.size_push]; exact Nat.lt_succ_of_lt (hfs b hb)
  generalize hs3 : ({ s with heap := s.heap.push { cls := .type "list", data := .seq ([] : List Value).toArray } } : Shared) = s3 at I3
  generalize hH3 : upd H s.heap.objs.size (.lst []) = H3 at I3 hf3
  have eh : s.heap.push { cls := .type "list", data := .seq ([] : List Value).toArray } = s3.heap := by rw [← hs3]
  rw [eh] at hfs3
  have I4 : Inv (compCxC X N' cs cl s3 H3 fp) [] (none :: slotsAt σ ix) H3 { s3 with heap := pushCells (s3.heap.push { cls := .type "dict", data := .dict #[] }) cs.names } :=
    I3.compStartC S h2 h3 hf3 hfs3
  have cf := (I3.cfs (cs := cs) h2).2
  have kp2 : ∀ b o, s.heap.get? b = some o → (pushCells (s3.heap.push { cls := .type "dict", data := .dict #[] }) cs.names).get? b = some o := fun b o e => pushCells_keeps _ _ _ _ (Heap.get?_push_of_some _ (by rw [← eh]; exact Heap.get?_push_of_some _ e))
  have st4 : tn 0 (pushCells (s3.heap.push { cls := .type "dict", data := .dict #[] }) cs.names) := T.keep _ _ _ st fun b hb o e => kp2 b o e
  obtain ⟨W, ⟨m0, w0⟩, turn⟩ := go s.heap.objs.size nacc
  rw [hH3] at w0
  have stat : ∀ {H' : Hp}, (∀ b ∈ fp, H' b = none) → ∀ b ∈ fp, FpOk (compCxC X N' cs cl s3 H3 fp) [] H' b := fun hn b hb =>
    ⟨hn b hb, Nat.ne_of_lt (hfs3 b hb), fun hs => by
      rcases List.mem_cons.mp (I.stkSub b hs) with z | z
      · exact (hf b hb).2.1 z
      · exact (hf b hb).2.2.1 z, .inl hb, fun y c e => by
        rcases cf y c e with z | ⟨_, z, _⟩
        · exact (hf b hb).2.2.2.2.1 y c z
        · exact Nat.ne_of_gt (Nat.lt_of_lt_of_le (Nat.lt_succ_of_lt (hfs3 b hb)) z), fun p hp => absurd (show p ∈ ([] : List (Addr × Obj)) from hp) (by simp)⟩
  have es : s3.heap.objs.size = s.heap.objs.size + 1 := by rw [← eh, Heap.size_push]
  have loop : codeAny (model X.prog X.w) X.A (.compLoop (.ListComp elt [⟨tg, iter, ifs, 0⟩] cs pos) 0 (.ref it) (.ref s.heap.objs.size) (compCxC X N' cs cl s3 H3 fp).env)
      (RR (.ref s.heap.objs.size) s3.heap.objs.size) { s3 with heap := pushCells (s3.heap.push { cls := .type "dict", data := .dict #[] }) cs.names } := by
    refine compLoop_any (fun n s' => ∃ i v0 H' xs, Inv (compCxC X N' cs cl s3 H3 fp) [] (v0 :: slotsAt σ ix) H' s' ∧ tn i s'.heap ∧ (∀ b ∈ fp, H' b = none) ∧ W i n xs H') ?_ m0
      ⟨0, none, H3, [], I4, st4, fun b hb => (hf3 b hb).1, w0⟩
    rintro n s5 ⟨i, v0, H5, xs, I5, st5, fr5, w5⟩
    rcases turn i n xs H5 w5 with ⟨stop, q⟩ | ⟨hgo, Nx, Nn, hNx, hNn, step⟩
    · refine thn (T.done (compCxC X N' cs cl s3 H3 fp) rfl rfl rfl hc i [] s5 _ H5 _ I5 (stat fr5) st5 stop) fun r' s6 ⟨hr, I6⟩ => ?_
      subst hr
      have u : Un (frs X.stack) fp H H5 s.heap s6.heap := by
        refine Un.trans (H1 := H3) (h1 := s3.heap) ?_ I6.base
        rw [← hH3, ← eh]
        exact Un.laid (fun _ _ q => Heap.get?_push_of_some _ q) (Nat.le_refl _) nacc
      have e3 : s3.os = s.os := by rw [← hs3]
      have os6 : s6.os = s.os := I6.os.trans e3
      have J6 : Inv X pins σ H5 s6 := I.call' os6 u I6.hok I6.bare fun b hb => ⟨(hf b hb).2.2.2.1, (hf b hb).2.1, (hf b hb).2.2.2.2.1, (hf b hb).2.2.2.2.2⟩
      obtain ⟨m6, n6, _⟩ := I6.loc
      exact fin _ _ s6 H5 m6 J6 (I.fpOk (by rw [es]; exact Nat.le_succ _) I6.free) n6 q
    · refine thn (T.item (compCxC X N' cs cl s3 H3 fp) rfl rfl rfl hc i [] s5 _ H5 _ I5 (stat fr5) st5 hgo) fun r' s6 ⟨u, hr, h6⟩ => ?_
      subst hr
      refine thn h6 fun _ s7 ⟨y, H7, I7, r7, y7, st7, fr7⟩ => ?_
      have I7' := I7.pinned (stat fr7) (T.obj _ _ st7)
      refine wpAny_mono (hg s3 H3 _ s7 _ H7 y u _ I7' r7 (step v0 y H7 y7)) (fun _ s8 ⟨σ8, H8, I8, ⟨v8, e8⟩, q8⟩ => ?_) fun _ _ z => z.elim
      subst e8
      have back : ∀ {s9 : Shared} {H9 : Hp} {m' : Nat} {xs' : List V}, Inv (compCxC X N' cs cl s3 H3 fp) ([] ++ pinsAt fp s7.heap) (v8 :: slotsAt σ ix) H9 s9 → m' < n → W (i + 1) m' xs' H9 →
          ∃ m, m < n ∧ ∃ i v0 H' xs, Inv (compCxC X N' cs cl s3 H3 fp) [] (v0 :: slotsAt σ ix) H' s9 ∧ tn i s9.heap ∧ (∀ b ∈ fp, H' b = none) ∧ W i m xs H' := fun {s9 H9 m' xs'} I9 hm w9 =>
        ⟨m', hm, i + 1, v8, H9, xs', I9.unpinned, T.keep _ _ _ st7 fun b hb o e => (I9.pin (b, o) (List.mem_append_right _ (List.mem_append_right _ (mem_pinsAt hb e)))).1, fun b hb => by
          obtain ⟨o, e, d⟩ := T.obj _ _ st7 b hb
          exact (I9.pin (b, o) (List.mem_append_right _ (List.mem_append_right _ (mem_pinsAt hb e)))).2.1, w9⟩
      refine thn (ht s3 H3 _ _ s8 _ H8 _ (fun _ _ z => z.elim) I8 q8) fun b s9 ⟨H9, I9, q9⟩ => ?_
      cases b with
      | false =>
        rw [if_neg Bool.false_ne_true] at q9 ⊢
        obtain ⟨m', hm, w9⟩ := hNn H9 q9
        exact back I9 hm w9
      | true =>
        rw [if_pos rfl] at q9 ⊢
        refine wpAny_mono (he s3 H3 _ s9 _ H9 _ I9 q9) (fun u2 s10 ⟨y2, H10, I10, r10, q10⟩ => ?_) fun _ _ z => z.elim
        obtain ⟨a10, z10, m', hm, w10⟩ := hNx y2 H10 q10
        refine wpAny_mono (mt_append (X := compCxC X N' cs cl s3 H3 fp) _ s10 _ H10 (.ref s.heap.objs.size) [y2] (.ref s.heap.objs.size) [u2] (fun _ H' => H' = upd H10 s.heap.objs.size (.lst (xs ++ [y2]))) I10 rfl (.cons r10 .nil) ⟨_, xs, y2, rfl, rfl, a10, z10, rfl⟩) (fun _ s11 ⟨_, H11, I11, _, e11⟩ => ?_) fun _ _ z => z.elim
        subst e11
        exact back I11 hm w10
  subst hs3
  exact codeAny_compStart_list loop (T.self X.A 0 _ _ _ st4 loop)
end

section
variable {X : Cx} {N' r : List Str} {ix : List Nat} {x : Str} {cs : Scope} {tg iter elt : Expr} {ifs : List Expr} {pos : Pos} {wi : TI} {g : TG} {tt : TT} {te : TE}
theorem CompScopeC.clos {sc : Scope} {N : List Str} (S : CompScopeC N sc N' ix x r cs) {env : Env} (he : env.scope = sc) (has : ∀ y, (env.kindOf y = some .cell ∨ env.kindOf y = some .free) → ∃ c, env.cells.lookup y = some c) :
    ∃ cl : List (Str × Addr), closureFor cs env = pure cl ∧ (∀ y c, cl.lookup y = some c → env.cells.lookup y = some c) ∧ (∀ y, (y, NameKind.free) ∈ cs.names → ∃ c, cl.lookup y = some c) :=
  closure_ok fun y hy hk => has y.1 (by
    subst he
    exact S.fr y hy hk)
theorem pe_compC (hc : X.calm = true) (S : CompScopeC X.N X.env.scope N' ix x r cs) (hi : PI X tg iter wi)
    (hg : ∀ cl s3 H3 fp, PG (compCxC X N' cs cl s3 H3 fp) tg g) (ht : ∀ cl s3 H3 fp, PTs (compCxC X N' cs cl s3 H3 fp) ifs tt) (he : ∀ cl s3 H3 fp, PE (compCxC X N' cs cl s3 H3 fp) elt te)
    (hs : ∀ x, foldedSetIterable iter X.env x = pure x := by intro _; rfl) : PE X (.ListComp elt [⟨tg, iter, ifs, 0⟩] cs pos) (tComp wi ix g tt te) := by
  intro pins s σ H Q I h
  obtain ⟨cl, c1, c2, c3⟩ := S.clos rfl I.ok.has
  rw [eval_ListComp]
  refine wpAny_comprehension_free (use := none) rfl hs c1 S.kind S.hnames (thn (hi pins s σ H _ I h) fun v s1 h1 => thn h1 fun itv s2 h2 => ?_)
  obtain ⟨it, fp, tn, J, H2, e, I2, T, st2, f2, R⟩ := h2
  subst e
  refine comp_coreC (RR := fun acc C => compPost (model X.prog X.w) X.A X.xe none (EP X pins σ Q) acc C) I2 hc S c2 c3 T st2 f2 (fun s3 H3 => hg cl s3 H3 fp) (fun s3 H3 => ht cl s3 H3 fp) (fun s3 H3 => he cl s3 H3 fp) R ?_
  intro acc C s' H' m I' fC hn q
  refine ⟨m, hn, fun h' hb => ⟨.ref acc, H', ?_, rfl, q⟩⟩
  exact I'.turned (t' := s'.toks) (fun b o hne e => (hb.2 b hne).trans e) fC.1 fC.2.1 fC.2.2.2.1 fC.2.2.2.2.1 fC.2.2.2.2.2
end
end L2
namespace L2
open PySem PyProof.Rows
section
variable {X : Cx} {K : PySem.W.Frag} {tg l : Expr} {tl : TE}
theorem pi_listK (h : X.K = K) (hl : PE X l tl) : PI X tg l (iList K tl) := h ▸ pi_list hl
theorem call_sumK (h : X.K = K) (hc : X.calm = true) : CallR X (.builtin "sum") (fun xs H Q => ∃ (a : Addr) (ns : List Int), xs = [.ref a] ∧ SqL K H a (ns.map V.int) ∧ Q (.int ns.sum) H) := h ▸ call_sum hc
end
end L2
/-! EXTENSION R: for k, x in enumerate(xs). -/
namespace L2
open PySem PySem.Spec PyProof.Rows
section
variable {X : Cx} {pins : List (Addr × Obj)} {σ : St} {H : Hp} {s : Shared} {h' : Heap}
end
/-- (0, x), (1, y), .. of the list at a: a new tuple each turn -/
def Ite (K : PySem.W.Frag) (a : Addr) : It :=
  ⟨fun i H => ∃ xs x, SqL K H a xs ∧ xs[i]? = some x, fun i H x H' => ∃ T v, x = .ref T ∧ H T = none ∧ H' = upd H T (.tup [.int i, v]) ∧ ∀ xs, SqL K H a xs → xs[i]? = some v, fun i H => ∃ xs, SqL K H a xs ∧ xs.length ≤ i⟩
section
variable {X : Cx} {elts : List Expr} {x1 : Nat} {tpos : Pos}
def iEnum (K : PySem.W.Frag) (ta : TA) : TI := fun σ H R => ta σ H fun vs H1 => ∃ a, vs = [.ref a] ∧ (∃ xs, SqL K H1 a xs) ∧ R (Ite K a) H1
end
section
variable {K : PySem.W.Frag} {ta : TA} {tl : TE} {g : TG} {tb : TS} {D : Ends} {σ : St} {H : Hp}
theorem tFor_E : tFor (iEnum K ta) g tb D σ H = ta σ H fun vs H1 => ∃ a, vs = [.ref a] ∧ (∃ xs, SqL K H1 a xs) ∧ ForG (Ite K a) g tb D σ H1 := rfl
end
end L2
/-! # x not in xs, of data: the answer is not told -/
namespace L2
open PySem PySem.Spec PyProof.Rows
section
variable {X : Cx}
def rNotInQ (K : PySem.W.Frag) : R2 := fun x y H Q => ∃ p xs, y = .ref p ∧ SqL K H p xs ∧ (∃ dx, Rds K H x dx ∧ PyData.canLay0 dx = true ∧ dx.depth ≤ 8) ∧ (∀ v ∈ xs, ∃ d, Rds K H v d ∧ PyData.canLay0 d = true ∧ d.depth ≤ 8) ∧ ∀ k, Q (.bl k) H
end
end L2
/-! # y = [.. for a, b in ..], y a plain local -/
namespace L2
open PySem PySem.Spec PyProof.Rows
section
variable {X : Cx} {N' r xs0 : List Str} {ix : List Nat} {cs : Scope} {tg iter elt : Expr} {ifs : List Expr} {pos : Pos} {wi : TI} {g : TG} {tt : TT} {te : TE}
theorem ps_setCompM {i : Nat} {y : Str} {py spos : Pos} (hc : X.calm = true) (hN : X.N.Nodup) (hiN : X.N[i]? = some y) (hy : X.env.scope.names.lookup y = some .local) (S : CompScopeM X.N X.env.scope N' ix xs0 r cs) (hi : PI X tg iter wi)
    (hg : ∀ cl s3 H3 fp, PG (compCx X N' cs cl s3 H3 fp) tg g) (ht : ∀ cl s3 H3 fp, PTs (compCx X N' cs cl s3 H3 fp) ifs tt) (he : ∀ cl s3 H3 fp, PE (compCx X N' cs cl s3 H3 fp) elt te)
    (hsw : swapsWith (.ListComp elt [⟨tg, iter, ifs, 0⟩] cs pos) (some (.Name y py)) spos.line X.env = pure true := by rfl)
    (hs : ∀ x, foldedSetIterable iter X.env x = pure x := by intro _; rfl) : PS X (.Assign [.Name y py] (.ListComp elt [⟨tg, iter, ifs, 0⟩] cs pos) spos) (tAsg (tCompM wi ix xs0.length g tt te) (gName i)) := by
  intro pins s σ H D I h
  obtain ⟨cl, c1, c2, c3⟩ := S.clos rfl I.ok.has
  rw [exec_Assign_Name_used _ _ _ _ hsw]
  refine wpAny_bind (wpAny_standAt (wpAny_bind ?_))
  show wpAny _ X.A (do let _ ← comprehension (.ListComp elt [⟨tg, iter, ifs, 0⟩] cs pos) cs X.env _ (newList []) false (eval iter X.env) (some (assign (.Name y py) X.env))) _ _ s
  refine wpAny_bind (wpAny_mono (wpAny_comprehension_free (use := some (assign (.Name y py) X.env)) (Q := fun _ s' => SP X pins D .next s') rfl hs c1 S.kind S.hnames
    (thn (hi pins s σ H _ I h) fun v s1 h1 => thn h1 fun itv s2 h2 => ?_)) (fun _ s' hq => wpAny_pure (wpAny_pure hq)) fun _ _ e => e)
  obtain ⟨it, fp, tn, J, H2, e, I2, T, st2, f2, R⟩ := h2
  subst e
  refine comp_coreM (RR := fun acc C => compPost (model X.prog X.w) X.A X.xe (some (assign (.Name y py) X.env)) (fun _ s' => SP X pins D .next s') acc C) I2 hc S c2 c3 T st2 f2 (fun s3 H3 => hg cl s3 H3 fp) (fun s3 H3 => ht cl s3 H3 fp) (fun s3 H3 => he cl s3 H3 fp) R ?_
  intro acc C s' H' m I' fC hn q
  show wpAny _ X.A (assign (.Name y py) X.env (.ref acc)) _ _ _
  refine wpAny_assign_Name (store_ok2 (v := .ref acc) I' hN hiN (.inl hy) rfl (fun s'' I'' ⟨a, hb, ha⟩ => ?_) (.inr hy))
  have hCa : C ≠ a := fun z => by
    rcases ha with ha | ha
    · exact fC.2.1 (z.trans ha)
    · exact fC.2.2.2.2.1 y a ha z.symm
  refine ⟨m, hn.sameBut hb hCa, fun h' hb' => ⟨_, H', ?_, q⟩⟩
  exact I''.turned (t' := s''.toks) (fun b o hne e => (hb'.2 b hne).trans e) fC.1 fC.2.1 fC.2.2.2.1 fC.2.2.2.2.1 fC.2.2.2.2.2
end
end L2
/-! EXTENSION S of the hand layer: exceptions of own classes as values: made, asked for their class, their attributes read and written. -/
namespace L2
open PySem PySem.Spec PyProof.Rows

/-- what the text's top must have written of an own exception class whose things are asked -/
structure XCls (K : PySem.W.Frag) (C : Addr) : Prop where
  cls : (PySem.W.clsIn K C).isSome = true
  ga : PySem.W.findIn K (.ref C) "__getattribute__" = some (some (.builtin "BaseException.__getattribute__"))
  gh : PySem.W.findIn K (.ref C) "__getattr__" = some none
  be : PySem.W.subIn K (.ref C) (.type "BaseException") = some true
  ca : PySem.W.findIn K (.ref C) "__class__" = some (some (.builtin "object.__class__"))
  cg : PySem.W.specialIn K (.builtin "object.__class__") "__get__" = some (some (.builtin "getset_descriptor.__get__"))
  ct : PySem.W.takesIn K (.builtin "object.__class__") = some true
  ob : PySem.W.mroIn K C (.type "object") = some true

section
variable {prog : Program} {w : World} {A : Around} {E : Value → Shared → Prop} {K : PySem.W.Frag} {x C : Addr} {ox : Obj} {od : Option Obj} {s : Shared} {name : Str} {tk : Tok} {v : Value}

end

/-! ### the thing itself -/
/-- an exception of the own class at C, no attribute of its own written -/
def excObj (C t : Addr) (d : Option Addr) : Obj := { cls := .ref C, dict := d, data := .fields #[.ref t, .none, .none, .none, .bool false, .none] }
def Exc0 (a C : Addr) : HO := .ext fun h => ∃ o, h.get? a = some o ∧ ∃ t, o = excObj C t none
/-- one whose attributes stand in the dict at dx -/
def ExcD (a C dx : Addr) : HO := .ext fun h => ∃ o, h.get? a = some o ∧ ∃ t, o = excObj C t (some dx)
/-- it is an exception of the own class at C -/
def IsExc (H : Hp) (a C : Addr) : Prop := H a = some (Exc0 a C) ∨ ∃ dx fs, H a = some (ExcD a C dx) ∧ H dx = some (.xd fs)
section
variable {X : Cx} {pins : List (Addr × Obj)} {σ : St} {H : Hp} {s : Shared} {A : Around} {E : Value → Shared → Prop} {Q : Value → Shared → Prop} {c : Value} {b : Bool} {a C : Addr}
theorem IsExc.at (I : Inv X pins σ H s) (h : IsExc H a C) : ∃ ox od, PySem.W.InstAt s.heap a ox C od := by
  rcases h with h | ⟨dx, fs, h, h2⟩
  · obtain ⟨⟨o, e, t, rfl⟩, _⟩ := (show ObjOk X.prog X.w H s.heap a (Exc0 a C) from I.hok a _ h)
    exact ⟨_, none, e, rfl, rfl, trivial⟩
  · obtain ⟨⟨o, e, t, rfl⟩, _⟩ := (show ObjOk X.prog X.w H s.heap a (ExcD a C dx) from I.hok a _ h)
    obtain ⟨mA, ⟨od, es, ep, e2, _⟩, _⟩ := (show ObjOk X.prog X.w H s.heap dx (.xd fs) from I.hok dx _ h2)
    exact ⟨_, some od, e, rfl, rfl, e2⟩
end

/-! ### making one -/
section
variable {P : Program} {w : World} {H : Hp} {h h' : Heap} {a : Addr} {o : HO}
theorem ObjOk.get (x : ObjOk P w H h a o) : ∃ ob, h.get? a = some ob := by
  cases o with
  | lst xs => obtain ⟨_, _, _, _, e⟩ := x; exact ⟨_, e⟩
  | tup xs => obtain ⟨_, _, _, ob, e, _⟩ := x; exact ⟨_, e⟩
  | dK kvs => obtain ⟨_, _, _, _, o, _, _, e, _⟩ := x; exact ⟨_, e⟩
  | dT kvs => obtain ⟨_, _, _, _, o, _, _, e, _⟩ := x; exact ⟨_, e⟩
  | set S n => obtain ⟨o, _, _, _, e, _⟩ := x; exact ⟨_, e⟩
  | ins C dx fs => obtain ⟨_, _, _, e, _⟩ := x; exact ⟨_, e⟩
  | own y => exact x
  | xd fs => obtain ⟨_, ⟨_, _, _, e, _⟩, _⟩ := x; exact ⟨_, e⟩
  | rng lo hi => obtain ⟨_, _, _, e⟩ := x; exact ⟨_, e⟩
  | frz ob u => obtain ⟨e, _⟩ := x; exact ⟨_, e⟩
  | tbl ps => exact ⟨_, (show h.get? a = some _ from x)⟩
  | met f y => exact ⟨_, (show h.get? a = some _ from x)⟩
  | ext φ => obtain ⟨_, e, _⟩ := x; exact e
theorem HOk.freshN (x : HOk P w H h) (e : h.get? a = none) : H a = none := by
  cases q : H a with
  | none => rfl
  | some u => obtain ⟨_, z⟩ := (x a u q).get; rw [e] at z; cases z
end
section
variable {X : Cx} {pins : List (Addr × Obj)} {σ : St} {H : Hp} {s : Shared} {h' : Heap} {C : Addr} {x : Str} {p pos : Pos} {e : Expr} {es : List Expr} {t : TA}
theorem ext_ok {P : Program} {w : World} {h : Heap} {a : Addr} {φ : Obj → Prop} {ob : Obj} (e : h.get? a = some ob) (q : φ ob) : ObjOk P w H h a (.ext fun h => ∃ o, h.get? a = some o ∧ φ o) :=
  ⟨⟨ob, e, q⟩, ⟨ob, e⟩, fun h1 h2 ⟨o, e1, q1⟩ k => ⟨o, k o e1, q1⟩⟩
/-- C(e, ..) where C is an own exception class without an __init__ -/
def tExc (C : Addr) (t : TA) : TE := fun σ H Q => t σ H fun vs H1 => vs.length ≤ sizeLine ∧ ∀ q, H1 q = none → Q (.ref q) (upd H1 q (Exc0 q C))
end

/-! ### an attribute of one, written and read -/
def excTail : List Value → Bool
  | [.type a, .type b, .type c, .type d] => a == "ValueError" && b == "Exception" && c == "BaseException" && d == "object"
  | .ref _ :: r => excTail r
  | _ => false
/-- what of the text the class must have so that the attribute f of its things may be written and read -/
structure XAttr (K : PySem.W.Frag) (C : Addr) (f : Str) : Prop where
  sa : PySem.W.findIn K (.ref C) "__setattr__" = some (some (.builtin "object.__setattr__"))
  po : ((PySem.W.clsIn K C).any fun cd => excTail cd.mro) = true
  hd : PySem.W.hasDictIn K C = true
  no : PySem.W.findIn K (.ref C) f = some none
section
open PySem.W PySem.Calls PySem.Builtin PySem.Builtin.ObjectAttr
variable {prog : Program} {w : World} {A : Around} {K : PySem.W.Frag} {x C : Addr} {ox : Obj} {od : Option Obj} {s : Shared} {name : Str} {tk : Tok} {v : Value} {R : Result → Shared → Prop}
end
section
variable {X : Cx} {pins : List (Addr × Obj)} {σ : St} {H : Hp} {s : Shared} {a C dx : Addr} {f : Str} {A : Around} {E : Value → Shared → Prop}
end

section
variable {X : Cx} {o e value : Expr} {f : Str} {pos pos' : Pos} {ta tv : TE}
def tFldX (K : PySem.W.Frag) (ta : TE) (f : Str) : TE := fun σ H Q => ta σ H fun x H1 => ∃ a C dx fs v, x = .ref a ∧ H1 a = some (ExcD a C dx) ∧ H1 dx = some (.xd fs) ∧ XCls K C ∧ XAttr K C f ∧ fs.lookup f = some v ∧ Q v H1
def sFldX (K : PySem.W.Frag) (ta tv : TE) (f : Str) : TS := fun D σ H => tv σ H fun y H1 => ta σ H1 fun x H2 => ∃ a C, x = .ref a ∧ H2 a = some (Exc0 a C) ∧ XAttr K C f ∧ ∀ dx, H2 dx = none → D.nx σ (upd (upd H2 dx (.xd [(f, y)])) a (ExcD a C dx))
end

/-! ### one whose class has an __init__ -/
def excInI (K : PySem.W.Frag) (C : Addr) (bmB : List Value) (newId : String) (f : Addr) : Bool := match K.lookup C with
  | some ⟨.type "type", _, .cls cd, sl⟩ => (match cd.mro, sl.toList with
    | .ref C' :: bm, [_, _, _, _, some (.builtin n), _] => C' == C && n == newId && !cd.hasDel && PySem.W.tailIn K bmB bm && PySem.W.nsOkIn K cd.ns && PySem.W.nsIn K cd.ns "__init__" == some (some (.ref f))
    | _, _ => false)
  | _ => false
structure ExcI (K : PySem.W.Frag) (C f : Addr) (B newId initId : String) (bmB : List Value) : Prop where
  at_ : excInI K C bmB newId f = true
  base : ExcBaseFacts B newId initId bmB
  fn : PySem.W.isFn K (.ref f) = true
  kp : PySem.W.keepIn K (.ref C) = true
section
variable {prog : Program} {w : World} {A : Around} {E : Value → Shared → Prop} {h : Heap} {g : Array GenState} {d : Drawn} {t : Nat} {os : OsState}
variable {nm q : Str} {C N : Addr} {bs bm bmB : List Value} {hdct : Bool} {sn : List Str} {sub : List Value} {ab : Bool} {col : Option Bool} {dd : Option Addr} {k0 k1 k2 k3 k5 : Option Value} {B newId initId : String}
end

section
variable {X : Cx} {CX : CXT} {k : Nat} {f C : Addr} {fd : FuncData} {ps : List Str} {sp : Sp} {E : XK} {x : Str} {p pos : Pos} {e : Expr} {es : List Expr} {t : TA} {B newId initId : String} {bmB : List Value}
def tExcI (C : Addr) (sp : Sp) (E : XK) (t : TA) : TE := fun σ H Q => t σ H fun vs H1 => vs.length ≤ sizeLine ∧ ∀ q, H1 q = none → sp (.ref q :: vs) (upd H1 q (Exc0 q C)) (fun v H2 => v = .non ∧ Q (.ref q) H2) E
end

/-! ### xs.count(True) -/
section
variable {X : Cx}
end
theorem boot_ValueError : bootBuiltins "ValueError" = some (.type "ValueError") := by decide +kernel
end L2
/-! EXTENSION T of the hand layer: a caught exception as a value: except C as e, asked by isinstance for its class (nothing is known of its dict). -/
namespace L2
open PySem PySem.Spec PyProof.Rows

def TyAt (h : Heap) (x C : Addr) : Prop := ∃ ox, h.get? x = some ox ∧ ox.cls = .ref C
theorem TyAt.type {M : Model} {h : Heap} {x C : Addr} (I : TyAt h x C) : PySem.W.Looks M h (typeOf (.ref x)) (.ref C) := by
  obtain ⟨ox, e, c⟩ := I
  exact c ▸ (PySem.W.Looks.ld e).andThen .now
section
open PySem.W PySem.Calls PySem.Builtin PySem.Builtin.ObjectAttr PySem.Builtin.Getset_descriptor
variable {prog : Program} {w : World} {A : Around} {E : Value → Shared → Prop} {K : PySem.W.Frag} {x C : Addr} {s : Shared} {name : Str} {tk : Tok} {v : Value}
theorem class_getT {R : Result → Shared → Prop} {tp : Value} (X : K.In s.heap) (I : TyAt s.heap x C) (hm : mroIn K C (.type "object") = some true)
    (h : R (.ok (.ret (.ref C))) s) : codeAny (model prog w) A (.call (.builtin "getset_descriptor.__get__") ⟨[.builtin "object.__class__", .ref x, tp], []⟩) R s := by
  obtain ⟨hh, g, dr, t, os⟩ := s
  have L0 := I.type (M := model prog w)
  have L1 := looks_mroIn (M := model prog w) X hm
  refine codeAny_call_builtin KF.slot_gs.plain KF.entry_gs (KF.slot_gs.check _ _ _ _ _ _ _ _ KF.type_class (KF.args_gs _ _ _) ?_)
  unfold Builtin.«getset_descriptor.__get__» descrGet
  rw [dga_obj]
  refine wpAny_bind (wpAny_pure ?_)
  unfold descrGetter descrCheckInstance descrNameAndClass isInstance
  simp only [KF.owner_class]
  repeat lk
  refine ⟨Code.quiet_builtin _ (by decide +kernel), codeAny_builtin KF.entry_class ?_⟩
  unfold Builtin.«object.__class__» shownTypeOf
  repeat lk
  exact h
theorem find_class {M : Model} {h : Heap} (X : K.In h) (Z : XCls K C) : Looks M h (find (.ref x) (.ref C) "__class__") (.bind (.builtin "getset_descriptor.__get__") (.builtin "object.__class__")) := by
  have L1 := looks_findIn (M := M) X Z.ca
  have L2 : Looks M h (getOf (some (.builtin "object.__class__"))) (some (.builtin "getset_descriptor.__get__")) := looks_specialIn X Z.cg
  have L3 := looks_takesIn (M := M) X Z.ct
  refine L1.andThen (L2.andThen ?_)
  exact (show Looks M h (dataDescriptor? (some (.builtin "object.__class__")) (some (.builtin "getset_descriptor.__get__"))) (some (.builtin "getset_descriptor.__get__", .builtin "object.__class__")) from L3.andThen .now).andThen (Looks.tag .now)
theorem xgaT_check {M : Model} {nameV : Value} {Q : Unit → Shared → Prop} (X : K.In s.heap) (Z : XCls K C) (I : TyAt s.heap x C) (hq : Q () s) :
    wpAny M A (checkBuiltinCall "BaseException.__getattribute__" ⟨[.ref x, nameV], []⟩) Q E s := by
  have hk : builtinKind "BaseException.__getattribute__" = some .slot := by decide +kernel
  have hsplit : splitId "BaseException.__getattribute__" = some ("BaseException", "__getattribute__") := by decide +kernel
  have ha := PySem.F.args_bexc_ga (.ref x) nameV
  have L0 := I.type (M := M)
  have L1 := PySem.W.looks_subIn (M := M) X Z.be
  obtain ⟨h, g, d, t, os⟩ := s
  simp only [checkBuiltinCall, hk, hsplit]
  refine wpAny_bind ?_
  unfold isInstance
  refine wpAny_bind (L0.at (L1.at ?_))
  repeat (first | exact hq | wp_step)
theorem xgaT_class {Q : Option Value → Shared → Prop} (X : K.In s.heap) (Z : XCls K C) (I : TyAt s.heap x C) (h : Q (some (.ref C)) { s with toks := s.toks + 1 }) : wpAny (model prog w) A (getAttr? (.ref x) "__class__") Q E s := by
  have FB := PySem.F.excAttr_ValueError
  have f3 := FB.ga.bind (.ref x)
  have hx2 : (Value.builtin "BaseException.__getattribute__" == Value.builtin "object.__getattribute__") = false := by decide +kernel
  have hx1 : (onTheHeap (Value.ref C) && Value.builtin "BaseException.__getattribute__" == Value.builtin "object.__getattribute__") = false := by rw [hx2]; rfl
  have L0 := I.type (M := model prog w)
  have L1 := PySem.W.looks_findIn (M := model prog w) X Z.ga
  have L2 := PySem.W.looks_findIn (M := model prog w) X Z.gh
  have L3 := find_class (M := model prog w) (x := x) X Z
  obtain ⟨hh, g, d, t, os⟩ := s
  unfold getAttr? getAttrBy? getAttrBy
  refine wpAny_bind (wpAny_mkText (wpAny_bind (wpAny_attempt (wpAny_holding (wpAny_bind (L0.at (wpAny_bind (L1.at ?_))))))))
  show wpAny _ _ (if (onTheHeap (Value.ref C) && Value.builtin "BaseException.__getattribute__" == Value.builtin "object.__getattribute__") = true then _ else _) _ _ _
  rw [if_neg (by rw [hx1]; exact Bool.false_ne_true)]
  unfold getAttrByItsOwn hookBefore
  refine wpAny_bind ?_
  show wpAny _ _ (typeLookup (.ref C) "__getattr__") _ _ _
  refine L2.at ?_
  refine wpAny_bind (wpAny_attempt (wpAny_holding ?_))
  unfold callGetattribute
  rw [if_neg (by exact Bool.false_ne_true)]
  unfold boundAndCalled
  refine wpAny_bind (wpAny_of_eq f3 ?_)
  refine wpAny_call (codeAny_call_builtin FB.ga.plain PySem.F.entry_bexc_ga (xgaT_check (s := ⟨hh, g, d, t + 1, os⟩) X Z I ?_))
  unfold Builtin.«object.__getattribute__»
  refine wpAny_bind (wpAny_pure (wpAny_bind (wpAny_pure (wpAny_bind (L0.at (wpAny_bind (L3.at ?_)))))))
  show wpAny _ _ (holding [Value.builtin "object.__class__"] (call (.builtin "getset_descriptor.__get__") [.builtin "object.__class__", .ref x, .ref C]) >>= ret) _ _ _
  exact wpAny_bind (wpAny_holding (wpAny_call (class_getT (s := ⟨hh, g, d, t + 1, os⟩) X I Z.ob (wpAny_pure (wpAny_pure (wpAny_pure h))))))
theorem xkitT (Z : XCls K C) : PySem.W.KitX K (.ref x) (.ref C) (fun h => TyAt h x C) where
  ty := fun _ _ _ I => I.type
  it := fun _ _ X _ => by
    obtain ⟨cdD, hcD⟩ := Option.isSome_iff_exists.mp Z.cls
    unfold PySem.W.clsIn at hcD
    split at hcD
    · rename_i c' d' cd' sl' ho
      intro A' Q' E' s' k q
      unfold isType loadHead
      exact wpAny_bind (wpAny_loadPart (k _ _ (X _ _ ho)) (wpAny_pure q))
    · cases hcD
  ne := fun h tp dd its n sl X htp => by
    obtain ⟨cdD, hcD⟩ := Option.isSome_iff_exists.mp Z.cls
    refine Bool.eq_false_iff.mpr fun q => ?_
    have e : C = tp := Value.ref.inj (beq_iff_eq.mp q)
    subst e
    unfold PySem.W.clsIn at hcD
    split at hcD
    · rename_i c' d' cd' sl' ho
      have z := (X _ _ ho).symm.trans htp
      cases z
    · cases hcD
  ca := fun X I k => xgaT_class X Z I k
end

/-- what was caught: a thing of the own class at C -/
def CaughtO (a C : Addr) : HO := .ext fun h => ∃ o, h.get? a = some o ∧ o.cls = .ref C
section
variable {X : Cx} {pins : List (Addr × Obj)} {σ : St} {H : Hp} {s : Shared} {a C : Addr}
theorem caught_at (I : Inv X pins σ H s) (e : H a = some (CaughtO a C)) : TyAt s.heap a C := (show ObjOk X.prog X.w H s.heap a (CaughtO a C) from I.hok a _ e).1
theorem vals_refs : ∀ {cs : List Addr} {its : List Value}, Vals (cs.map V.ref) its → its = cs.map Value.ref
  | [], _, .nil => rfl
  | c :: cs, _, .cons r t => by
    cases r
    rw [List.map_cons, vals_refs t]
/-- isinstance of what was caught -/
theorem call_isinstT : CallR X (.builtin "isinstance") (fun xs H Q => ∃ a C c b, xs = [.ref a, c] ∧ H a = some (CaughtO a C) ∧ XCls X.K C ∧
    ((∃ D, c = .ref D ∧ PySem.W.kitOne X.K (.ref C) (.ref D) = some b) ∨ (∃ T, c = .ty T ∧ PySem.W.kitOne X.K (.ref C) (.type T) = some b) ∨
      ∃ (tp : Addr) (cs : List Addr), c = .ref tp ∧ H tp = some (.tup (cs.map V.ref)) ∧ PySem.W.kitAny X.K (.ref C) (cs.map Value.ref) = some b) ∧ Q (.bl b) H) := by
  intro pins s σ H xs us Q I r h
  obtain ⟨a, C, c, b, rfl, ie, Z, e, q⟩ := h
  obtain ⟨u, w', rfl, r1, r2⟩ := vals2 r
  cases (show u = Value.ref a from r1)
  rcases e with ⟨D, rfl, e⟩ | ⟨T, rfl, e⟩ | ⟨tp, cs, rfl, et, e⟩
  · cases r2
    exact PySem.W.kia_one (xkitT Z) I.kIn (caught_at I ie) e (fun z => nomatch z) fun tk => ⟨.bl b, H, I.tok tk, rfl, q⟩
  · cases r2
    exact PySem.W.kia_one (xkitT Z) I.kIn (caught_at I ie) e (fun z => nomatch z) fun tk => ⟨.bl b, H, I.tok tk, rfl, q⟩
  · cases (show w' = Value.ref tp from r2)
    obtain ⟨_, its, rv, ⟨cl, dd, da, sl⟩, ho, hc, n, hd⟩ := (show ObjOk X.prog X.w H s.heap tp (.tup (cs.map V.ref)) from I.hok tp _ et)
    simp only at hc hd
    subst hc hd
    have ei := vals_refs rv
    subst ei
    exact PySem.W.kia_tup (xkitT Z) I.kIn (caught_at I ie) ho e (fun z => nomatch z) fun tk => ⟨.bl b, H, I.tok tk, rfl, q⟩
theorem call_isinstTK {K : PySem.W.Frag} (hK : X.K = K) : CallR X (.builtin "isinstance") (fun xs H Q => ∃ a C c b, xs = [.ref a, c] ∧ H a = some (CaughtO a C) ∧ XCls K C ∧
    ((∃ D, c = .ref D ∧ PySem.W.kitOne K (.ref C) (.ref D) = some b) ∨ (∃ T, c = .ty T ∧ PySem.W.kitOne K (.ref C) (.type T) = some b) ∨
      ∃ (tp : Addr) (cs : List Addr), c = .ref tp ∧ H tp = some (.tup (cs.map V.ref)) ∧ PySem.W.kitAny K (.ref C) (cs.map Value.ref) = some b) ∧ Q (.bl b) H) := by
  subst hK
  exact call_isinstT
/-- what lies there untracked and is new is tracked -/
theorem Inv.track {o : HO} (I : Inv X pins σ H s) (hn : H a = none) (new : X.s₀.heap.get? a = none) (hl : a ≠ X.env.locals) (hc : ∀ x c, X.env.cells.lookup x = some c → c ≠ a) (hp : ∀ p ∈ X.pn ++ pins, p.1 ≠ a)
    (ok : ObjOk X.prog X.w (upd H a o) s.heap a o) : Inv X pins σ (upd H a o) s := by
  have up : ∀ b u, H b = some u → upd H a o b = some u := fun b u q => by rw [upd_ne (ne_of_none q hn)]; exact q
  refine ⟨I.ok, I.os, I.bare, ⟨I.base.keep, I.base.slot, fun b v q n hx => ?_, I.base.there, fun b xs q => up _ _ (I.base.tups b xs q), fun b u xs q => up _ _ (I.base.frzs b u xs q), fun b ps q => ?_⟩, I.loc, I.cell, by rw [upd_ne (Ne.symm hl)]; exact I.free,
    fun x c q => by rw [upd_ne (hc x c q)]; exact I.freeC x c q, fun p q => ?_, fun b u q => ?_, I.len⟩
  · rw [upd_ne (fun z => by rw [z, new] at q; cases q)]
    exact I.base.free b v q n hx
  · obtain ⟨m, z⟩ := I.base.tbls b ps q
    exact ⟨m, up _ _ z⟩
  · obtain ⟨h1, h2, h3⟩ := I.pin p q
    exact ⟨h1, by rw [upd_ne (hp p q)]; exact h2, h3⟩
  · by_cases hb : b = a
    · subst hb; rw [upd_same] at q; cases q; exact ok
    · rw [upd_ne hb] at q
      exact (I.hok b u q).stay (fun c v _ r => r) (fun c r => up _ _ r) fun c xs r => up _ _ r
end

section
variable {X : Cx} {pins : List (Addr × Obj)} {σ : St} {H : Hp} {s : Shared}
/-- the name behind the suite is gone -/
theorem goes_ok {M : Model} {A : Around} {E : Value → Shared → Prop} {i : Nat} {n : Str} {pos : Pos} {Q : Unit → Shared → Prop} (I : Inv X pins σ H s) (hN : X.N.Nodup) (hi : X.N[i]? = some n) (hk : X.env.kindOf n = some .local)
    (h : ∀ s', Inv X pins (σ.set i none) H s' → Q () s') : wpAny M A (do bindName X.env n .none; unbindBehindTheSuite X.env n pos) Q E s := by
  obtain ⟨m, hn, hl⟩ := id I.loc
  have hcls : (X.env.scope.kind == .class || (X.env.scope.kind == .module && X.env.locals != X.env.globals)) = false := by rw [I.ok.kind]; rfl
  have hiσ : i < σ.length := by rw [I.len]; exact (List.getElem?_eq_some_iff.mp hi).1
  have cne := I.cne
  refine wpAny_nameGoes_keeps hk hn hcls fun h' v hn' hs => ?_
  refine h _ ⟨I.ok, I.os, I.bare, ⟨fun b o e n hb hx => ?_, fun b o e n hb hx => ?_, I.base.free, fun b o e hx => ?_, I.base.tups, I.base.frzs, I.base.tbls⟩, ⟨_, hn', fun j y v' e1 e2 e3 => ?_⟩, fun y c e => ?_, I.free, I.freeC, fun p hp => ?_, fun b u e => ?_, by simpa using I.len⟩
  · exact (hs.2 b (Nat.ne_of_lt (Nat.lt_of_lt_of_le (Heap.lt_size e) I.ok.above))).trans (I.base.keep b o e n hb hx)
  · obtain ⟨sl, e1⟩ := I.base.slot b o e n hb hx
    exact ⟨sl, (hs.2 b (Nat.ne_of_lt (Nat.lt_of_lt_of_le (Heap.lt_size e) I.ok.above))).trans e1⟩
  · obtain ⟨o', e1⟩ := I.base.there b o e hx
    exact ⟨o', (hs.2 b (Nat.ne_of_lt (Nat.lt_of_lt_of_le (Heap.lt_size e) I.ok.above))).trans e1⟩
  · by_cases hj : j = i
    · subst hj
      rw [List.getElem?_set_self hiσ] at e2
      cases e2
    · rw [List.getElem?_set_ne (Ne.symm hj)] at e2
      obtain ⟨u', r', q⟩ := hl j y v' e1 e2 e3
      refine ⟨u', r', ?_⟩
      rcases q with ⟨k, e⟩ | ⟨k, c, e, z⟩
      · refine .inl ⟨k, ?_⟩
        have : y ≠ n := fun e => hj (nodup_ix hN e1 (e ▸ hi))
        simp [this, e]
      · exact .inr ⟨k, c, e, z.sameBut hs (cne y c e)⟩
  · obtain ⟨w', z⟩ := I.cell y c e
    exact ⟨w', z.sameBut hs (cne y c e)⟩
  · obtain ⟨e, n, ne, nf, d⟩ := I.pin p hp
    exact ⟨(hs.2 p.1 ne).trans e, n, ne, nf, d⟩
  · have nl : ∀ c v, H c = some v → c ≠ X.env.locals := fun c v q z => by rw [z, I.free] at q; cases q
    refine (I.hok b u e).stay (fun c v hc r => (hs.2 c ?_).trans r) (fun _ q => q) fun _ _ q => q
    rcases hc with z | z
    · rw [z]; exact nl b u e
    · exact nl c _ z
end

def Ends.gone (D : Ends) (i : Nat) : Ends := { nx := fun σ H => D.nx (σ.set i none) H, bk := fun σ H => D.bk (σ.set i none) H, ct := fun σ H => D.ct (σ.set i none) H, rt := D.rt }
section
variable {X : Cx}
/-- try: .. except D as n: .. -/
theorem ps_tryAs {c n : Str} {D₀ : Addr} {i : Nat} {body : List Stmt} {b₀ : Stmt} {suite : List Stmt} {tb : TSX} {th : TS} {np hpos pos : Pos} (T : Top1 X) (hg : Gl X c) (hm : X.mg c = some (.ref D₀)) (hN : X.N.Nodup) (hi : X.N[i]? = some n)
    (hkd : X.env.kindOf n = some .local) (hx : Loc X.env.scope n) (hb : PSX X body tb) (hs : ∀ e, PSs (X.caught e) (b₀ :: suite) th) (hdb : (c == ("__debug__" : Str)) = false := by decide)
    (hf : X.fn n = true ∨ X.env.scope.names.lookup n = some .local := by first | exact .inl rfl | exact .inr rfl | assumption) :
    PS X (.Try body [.ExceptHandler (some (.Name c np)) (some n) (b₀ :: suite) hpos] [] [] pos) (fun D σ H => tb D (fun σ1 cls _ H1 => ∃ C, cls = .ref C ∧ PySem.W.exmOne X.K (.ref C) (.ref D₀) = some true ∧
      ∀ ea, H1 ea = none → th (D.gone i) (σ1.set i (some (.ref ea))) (upd H1 ea (CaughtO ea C))) σ H) := by
  intro pins s σ H D I h
  refine wpAny_Try_except (wpAny_mono (hb pins s σ H D _ I h) (fun f s1 q => ?_) fun ex s' ⟨σ1, H1, s1, I1, hx'⟩ => ?_)
  · cases f with
    | next => exact wpAny_execs_nil q
    | brk => exact q
    | cont => exact q
    | ret u => exact q
  · obtain ⟨ea, C', a0, H', Bh, rfl, fl, os, ba, un, hk, kb, tbb, C, ec, em, q⟩ := hx'
    cases ec
    have hfr : X.A.frames = some (X.env :: X.outer) := by rw [← T.stk]; exact I1.ok.frames
    have ff := fl.2.2.1
    have hB : Bh.get? ea = none := fl.2.1
    have dat : ∀ h l, Heap.FlyingW Bh l ea (.ref C') a0 h → ∃ oe vs, h.get? ea = some oe ∧ oe.cls = .ref C' ∧ oe.data = .fields vs := fun h l z => by
      obtain ⟨_, _, _, oe, vs, _, _, _, he, hc, hd, _⟩ := z
      exact ⟨oe, vs, he, hc.1, hd⟩
    have nofr : ea ∉ frs X.stack := fun hb => by
      obtain ⟨_, o, e1, nf⟩ := ff.mem hb
      obtain ⟨oe, vs, e2, _, hd⟩ := dat _ _ fl
      rw [e1] at e2; cases e2
      exact nf vs hd
    have s1n : s1.heap.get? ea = none := by
      cases z : s1.heap.get? ea with
      | none => rfl
      | some o => obtain ⟨o', e⟩ := tbb ea o z nofr; rw [hB] at e; cases e
    have nx : ∀ b : Addr, b ∉ X.ex := fun b z => by rw [T.ex] at z; cases z
    have s0n : X.s₀.heap.get? ea = none := by
      cases z : X.s₀.heap.get? ea with
      | none => rfl
      | some o => obtain ⟨o', e⟩ := I1.base.there ea o z (nx ea); rw [s1n] at e; cases e
    have hn : H' ea = none := hk.freshN hB
    rw [T.stk] at fl
    refine wpAny_looks_onW hfr T.frm fl fun h₄ held₄ sm₄ => ?_
    refine wpAny_landsW held₄ fun h₅ fl₅ sm₅' => ?_
    have sm₅ := sm₄.trans sm₅'
    have I5 : Inv X pins σ1 H' { s' with heap := h₅ } := I1.landed T os ba un hk kb tbb fl₅.1 sm₅ ff
    obtain ⟨ob, hob, hobc⟩ := fl₅.there
    refine wpAny_handleBy_cons (codeAny_handlers_test (ld_glob (X := X.caught (.ref ea)) (I5.caught (.ref ea)) hg hm ?_ hdb)) (by intro q; cases q)
    have LT : PySem.W.Looks (model X.prog X.w) h₅ (typeOf (.ref ea)) (.ref C') := TyAt.type ⟨ob, hob, hobc⟩
    refine PySem.W.Looks.here (s := { s' with heap := h₅ }) (PySem.W.exm_one I5.kIn LT em) ?_
    refine codeAny_handlers_suite_as ?_
    refine lands_againW fl₅ fun h₆ fl₆ sm₆ => ?_
    have I6 : Inv X pins σ1 H' { s' with heap := h₆ } := I1.landed T os ba un hk kb tbb fl₆.1 (sm₅.trans sm₆) ff
    obtain ⟨oe, vs, he, hec, hed⟩ := dat _ _ fl₆
    have I7 : Inv X pins σ1 (upd H' ea (CaughtO ea C')) { s' with heap := h₆ } := I6.track hn s0n (fun z => nofr (T.mem.mpr (.inl z))) (fun y c e z => by
        obtain ⟨v, o, e1, e2⟩ := I6.cell y c e
        rw [z] at e1
        rw [he] at e1; cases e1
        rw [hed] at e2; cases e2) (fun p hp z => by
        obtain ⟨e1, _⟩ := I1.pin p hp
        rw [z, s1n] at e1; cases e1) (ext_ok (φ := fun o => o.cls = .ref C') he hec)
    refine store_ok (X := X.caught (.ref ea)) (I7.caught (.ref ea)) hN hi hx (v := .ref ea) rfl (fun s8 I8 => ?_) hf
    refine wpAny_mono (hs (.ref ea) pins s8 _ _ (D.gone i) I8 (q ea hn)) (fun f s9 q9 => ?_) fun _ _ z => z.elim
    have q9 := SP.uncaught I6.ok q9
    cases f with
    | next => obtain ⟨a, b, J, z⟩ := q9; exact goes_ok J hN hi hkd fun s' J' => ⟨_, b, J', z⟩
    | brk => obtain ⟨a, b, J, z⟩ := q9; exact goes_ok J hN hi hkd fun s' J' => ⟨_, b, J', z⟩
    | cont => obtain ⟨a, b, J, z⟩ := q9; exact goes_ok J hN hi hkd fun s' J' => ⟨_, b, J', z⟩
    | ret u => obtain ⟨v, a, b, J, r, z⟩ := q9; exact goes_ok J hN hi hkd fun s' J' => ⟨v, _, b, J', r, z⟩
end
end L2
/-! EXTENSION U: list.insert; an expression as a try's body. -/
namespace L2
open PySem PySem.Spec PyProof.Rows
section
variable {X : Cx}
def rInsert : V → List V → Hp → VK → Prop := fun x vs H Q => ∃ l xs y, ∃ i : Nat, x = .ref l ∧ vs = [.int (i : Int), y] ∧ H l = some (.lst xs) ∧ i ≤ xs.length ∧ xs.length < sizeLine ∧ i < 1000000 ∧ Q .non (upd H l (.lst (xs.take i ++ y :: xs.drop i)))
theorem vals_td {xs : List V} {us : List Value} (r : Vals xs us) : ∀ n, Vals (xs.take n) (us.take n) ∧ Vals (xs.drop n) (us.drop n) := by
  induction r with
  | nil => intro n; cases n <;> exact ⟨.nil, .nil⟩
  | cons h t ih =>
    intro n
    cases n with
    | zero => exact ⟨.nil, .cons h t⟩
    | succ n => exact ⟨.cons h (ih n).1, (ih n).2⟩
theorem mt_insert : MtM X "list.insert" rInsert := by
  intro pins s σ H x vs v us Q I rx rv h
  obtain ⟨l, xs, y, i, rfl, rfl, hH, hi, hz, hm, q⟩ := h
  cases rx
  obtain ⟨u0, u, rfl, r0, ru⟩ := vals2 rv
  obtain ⟨tk, rfl⟩ := r0
  obtain ⟨z, its, n, r, hl, e⟩ := I.lstM hH
  have hf : Builtin.List.listFitsIndex (i : Int) = true := by
    unfold Builtin.List.listFitsIndex
    simp
    omega
  have hsz : its.toArray.size ≤ sizeLine := by rw [List.size_toArray]; omega
  have hnf : ¬ (!Builtin.List.listFitsIndex (i : Int)) = true := by rw [hf]; exact Bool.false_ne_true
  have hj0 : ¬ ((i : Int) < 0) := by omega
  have hj1 : ((i : Int)).toNat = i := Int.toNat_natCast i
  generalize (i : Int) = j at hnf hj0 hj1 rv ⊢
  have M := AutoSeq1.list_insert_list_int_val_1 l its.toArray n j tk u hnf hsz
  refine call_meets F.slot_list_insert ⟨_, e, rfl⟩ F.entry_list_insert (F.args_list_insert_3 _ _ _) M ⟨e, ?_⟩
  refine ⟨.non, _, I.lset (its' := its.take i ++ u :: its.drop i) hH e ?_ (((vals_td r i).1).append (.cons ru (vals_td r i).2)) ?_, rfl, q⟩
  · have hil : i ≤ its.length := by omega
    simp only [if_neg hj0, hj1, List.size_toArray, Nat.min_eq_left hil]
    simp
    exact List.take_of_length_le (by simp)
  · rw [List.length_append, List.length_take, List.length_cons, List.length_drop]
    omega
theorem psx_expr {e : Expr} {t : TX} {pos : Pos} (he : PX X e t) (hs : swapsWith e none pos.line X.env = pure false := by rfl) :
    PSX X [.Expr e pos] (fun D E σ H => t σ H (fun _ H1 => D.nx σ H1) (E σ)) := by
  intro pins s σ H D E I h
  refine wpAny_execs_cons (wpAny_Expr_any (wpAny_mono (he pins s σ H _ (E σ) I h) (fun u s1 ⟨v, H1, I1, r, q⟩ => ?_) fun ex s' z => ⟨σ, z⟩) I.quiet hs)
  exact wpAny_execs_nil ⟨σ, H1, I1, q⟩
end
end L2

set_option maxHeartbeats 2000000
namespace My
/-! ### mathematics -/
def G (d : Int) (ns : List Int) : Int := ns.foldl (fun d n => ((Int.gcd d n : Nat) : Int)) d
abbrev gl (ns : List Int) : Int := G 0 ns
theorem G_cons (d n : Int) (r : List Int) : G d (n :: r) = G (Int.gcd d n : Nat) r := rfl
theorem G_snoc (d : Int) (l : List Int) (n : Int) : G d (l ++ [n]) = (Int.gcd (G d l) n : Nat) := by
  unfold G
  rw [List.foldl_append]
  rfl
theorem G_nonneg : ∀ (ns : List Int) (d : Int), 0 ≤ d → 0 ≤ G d ns
  | [], _, h => h
  | n :: r, d, _ => by rw [G_cons]; exact G_nonneg r _ (by omega)
theorem gl_nonneg (ns : List Int) : 0 ≤ gl ns := G_nonneg ns 0 (by omega)
theorem G_dvd : ∀ (ns : List Int) (d : Int), G d ns ∣ d ∧ ∀ n ∈ ns, G d ns ∣ n
  | [], d => ⟨Int.dvd_refl d, fun n h => nomatch h⟩
  | m :: r, d => by
    obtain ⟨h1, h2⟩ := G_dvd r (Int.gcd d m : Nat)
    rw [G_cons]
    refine ⟨Int.dvd_trans h1 (Int.gcd_dvd_left ..), fun n hn => ?_⟩
    rcases List.mem_cons.mp hn with rfl | hn
    · exact Int.dvd_trans h1 (Int.gcd_dvd_right ..)
    · exact h2 n hn
theorem gl_dvd {ns : List Int} {n : Int} (h : n ∈ ns) : gl ns ∣ n := (G_dvd ns 0).2 n h
theorem dvd_G : ∀ (ns : List Int) (d k : Int), k ∣ d → (∀ n ∈ ns, k ∣ n) → k ∣ G d ns
  | [], _, _, h, _ => h
  | m :: r, d, k, h, hn => by
    rw [G_cons]
    refine dvd_G r _ k ?_ fun n h' => hn n (List.mem_cons_of_mem _ h')
    have h2 := hn m List.mem_cons_self
    exact Int.dvd_coe_gcd h h2
theorem dvd_gl {ns : List Int} {k : Int} (h : ∀ n ∈ ns, k ∣ n) : k ∣ gl ns := dvd_G ns 0 k (Int.dvd_zero k) h
theorem dvd_one {k : Int} (h0 : 0 ≤ k) (h : k ∣ 1) : k = 1 := by
  exact Int.eq_one_of_dvd_one h0 h
theorem gl_div {ns : List Int} (hg : gl ns ≠ 0) : gl (ns.map (· / gl ns)) = 1 := by
  have h0 := gl_nonneg ns
  refine dvd_one (gl_nonneg _) ?_
  have h1 : ∀ n ∈ ns, gl (ns.map (· / gl ns)) * gl ns ∣ n := fun n hn => by
    obtain ⟨c, hc⟩ := gl_dvd (ns := ns.map (· / gl ns)) (List.mem_map.mpr ⟨n, hn, rfl⟩)
    refine ⟨c, ?_⟩
    have e : n = n / gl ns * gl ns := (Int.ediv_mul_cancel (gl_dvd hn)).symm
    rw [e, hc, Int.mul_assoc, Int.mul_comm c, ← Int.mul_assoc]
  obtain ⟨c, hc⟩ := dvd_gl h1
  refine ⟨c, ?_⟩
  have h2 : gl ns * 1 = gl ns * (gl (ns.map (· / gl ns)) * c) := by
    rw [Int.mul_one, ← Int.mul_assoc, Int.mul_comm (gl ns) (gl (ns.map (· / gl ns)))]
    exact hc
  exact Int.eq_of_mul_eq_mul_left hg h2
theorem G_one : ∀ ns : List Int, G 1 ns = 1
  | [] => rfl
  | n :: r => by
    rw [G_cons]
    have : Int.gcd 1 n = 1 := by simp
    rw [this]
    exact G_one r
theorem G_append (d : Int) (a b : List Int) : G d (a ++ b) = G (G d a) b := by
  unfold G
  exact List.foldl_append
theorem gl_one_of_take {ns : List Int} {i : Nat} (h : gl (ns.take i) = 1) : gl ns = 1 := by
  have e : ns = ns.take i ++ ns.drop i := (List.take_append_drop i ns).symm
  rw [e]
  show G 0 _ = 1
  rw [G_append]
  have h' : G 0 (ns.take i) = 1 := h
  rw [h']
  exact G_one _
theorem gl_take_succ {ns : List Int} {i : Nat} {n : Int} (h : ns[i]? = some n) : gl (ns.take (i + 1)) = (Int.gcd (gl (ns.take i)) n : Nat) := by
  rw [List.take_add_one, h]
  exact G_snoc 0 _ n
theorem map_div_one (ns : List Int) : ns.map (· / 1) = ns := by
  induction ns with
  | nil => rfl
  | cons a r ih => rw [List.map_cons, ih, Int.ediv_one]
theorem gcd_step (a b : Int) (ha : 0 ≤ a) : Int.gcd b (a % b) = Int.gcd a b := by
  have h1 : (a % b).natAbs = a.natAbs % b.natAbs := Int.natAbs_emod_of_nonneg ha b
  rw [Int.gcd_eq_natAbs_gcd_natAbs, Int.gcd_eq_natAbs_gcd_natAbs, h1]
  rw [Nat.gcd_comm, Nat.gcd_comm a.natAbs, ← Nat.gcd_rec]
theorem gcd_abs (a b : Int) : Int.gcd (if a < 0 then -a else a) (if b < 0 then -b else b) = Int.gcd a b := by
  split <;> split <;> simp [Int.gcd_neg, Int.neg_gcd]
theorem gcd_maxmin (a b : Int) : Int.gcd (if b > a then b else a) (if b < a then b else a) = Int.gcd a b := by
  split <;> split
  · omega
  · exact Int.gcd_comm b a
  · rfl
  · have : a = b := by omega
    rw [this]
/-- the parts of a list by its greatest divisor -/
theorem parts {ns : List Int} {a b : Int} (ha : a ∈ ns) (hb : b ∈ ns) : (a / gl ns) * b = a * (b / gl ns) := by
  have e1 : a = a / gl ns * gl ns := (Int.ediv_mul_cancel (gl_dvd ha)).symm
  have e2 : b = b / gl ns * gl ns := (Int.ediv_mul_cancel (gl_dvd hb)).symm
  conv => lhs; rhs; rw [e2]
  conv => rhs; lhs; rw [e1]
  rw [Int.mul_assoc, Int.mul_comm (gl ns)]
theorem gl_pos {ns : List Int} {n : Int} (h : n ∈ ns) (hn : n ≠ 0) : 0 < gl ns := by
  have h0 := gl_nonneg ns
  rcases Int.lt_or_eq_of_le h0 with h1 | h1
  · exact h1
  · obtain ⟨c, hc⟩ := gl_dvd h
    rw [← h1, Int.zero_mul] at hc
    exact absurd hc hn
end My
namespace My
theorem div_ne_zero {n g : Int} (h : g ∣ n) (hn : n ≠ 0) : n / g ≠ 0 := fun z => by
  have e := Int.ediv_mul_cancel h
  rw [z, Int.zero_mul] at e
  exact hn e.symm
end My
local macro_rules | `(tactic| walk_at "rd") => `(tactic| simp only [L2.start, L2.tSeq, L2.tNext, L2.tAsg, L2.gName, L2.tVar, L2.tC, L2.tOp, L2.tUn, L2.tTest, L2.tB, L2.tIfS, L2.tRet, L2.tRetN, L2.tDrop, L2.tBreak, L2.tAnd, L2.tOr, L2.tNot, L2.tAndV, L2.tOrV, L2.tNotV, L2.tCall, L2.tCB, L2.tCons, L2.tNil, L2.tTup, L2.tLst, L2.tPar, L2.tBM0, L2.tBM, L2.tyV, L2.tCut, L2.gk, and_self, L2.tSl, L2.tNoPart, L2.tPart, L2.gTup, L2.gCons, L2.gNil, L2.cxOf, and_assoc, 
  L2.rI, L2.rI0, L2.rU, L2.rEq, L2.rNe, L2.scal, List.map_cons, List.map_nil, List.length_cons, List.length_nil, List.replicate_succ, List.replicate_zero, List.cons_append, List.nil_append, List.append_nil, Nat.reduceSub, Nat.reduceAdd, Nat.sub_self,
  List.set_cons_zero, List.set_cons_succ, List.getElem?_cons_zero, List.getElem?_cons_succ, Option.some.injEq, exists_eq_left', exists_eq_left, L2.V.int.injEq, L2.V.bl.injEq, L2.V.ref.injEq, L2.V.ty.injEq, List.cons.injEq, exists_and_left, and_true, true_and, reduceCtorEq, false_and, and_false, exists_false, or_false, false_or,
  L2.slotsAt, Option.getD_some, Bool.true_eq_false, decide_eq_true_eq, Bool.not_eq_true', decide_eq_false_iff_not, decide_not, Bool.false_eq_true, if_true, if_false, ite_not])
local macro_rules | `(tactic| walk_at "go") => `(tactic| repeat (first | refine L2.ixT (by assumption) rfl ?_ | refine L2.ixL (by assumption) rfl ?_ | refine And.intro (by assumption) ?_ | walk_at "rd"))
local macro_rules | `(tactic| walk_at "rf") => `(tactic| simp only [L2.start, L2.tSeq, L2.tNext, L2.tAsg, L2.gName, L2.tVar, L2.tC, L2.tOp, L2.tUn, L2.tTest, L2.tB, L2.tIfS, L2.tRet, L2.tRetN, L2.tDrop, L2.tBreak, L2.tAnd, L2.tOr, L2.tNot, L2.tAndV, L2.tOrV, L2.tNotV, L2.tCall, L2.tCB, L2.tCons, L2.tNil, L2.tTup, L2.tLst, L2.tPar, L2.tBM0, L2.tBM, L2.tyV, L2.tCut, L2.gk, and_self, L2.tSl, L2.tNoPart, L2.tPart, L2.gTup, L2.gCons, L2.gNil, L2.cxOf, and_assoc, 
  L2.rI, L2.rI0, L2.rU, L2.rEq, L2.rNe, L2.scal, List.map_cons, List.map_nil, List.length_cons, List.length_nil, List.replicate_succ, List.replicate_zero, List.cons_append, List.nil_append, List.append_nil, Nat.reduceSub, Nat.reduceAdd, Nat.sub_self,
  List.set_cons_zero, List.set_cons_succ, List.getElem?_cons_zero, List.getElem?_cons_succ, Option.some.injEq, exists_eq_left', exists_eq_left, L2.V.int.injEq, L2.V.bl.injEq, L2.V.ref.injEq, L2.V.ty.injEq, List.cons.injEq, exists_and_left, and_true, true_and, reduceCtorEq, false_and, and_false, exists_false, or_false, false_or,
  L2.slotsAt, Option.getD_some, Bool.true_eq_false, decide_eq_true_eq, Bool.not_eq_true', decide_eq_false_iff_not, decide_not, Bool.false_eq_true, if_true, if_false, ite_not, L2.tFor_R1, L2.tFor_R2, L2.tFor_L, L2.tFor_T, L2.tComp_R1, L2.tComp_R2, L2.tComp_L, L2.tComp_T, L2.tFor_S, L2.tComp_S, L2.tChain, L2.V.str.injEq, L2.tCompM_L, L2.tListRev, L2.tComp_R3, L2.tFor_E])
local macro_rules | `(tactic| walk_at "sd") => `(tactic| first | assumption | exact L2.Fit.o (by omega) (by omega) | (show L2.CPow _ _; exact ⟨by decide, by decide, by decide⟩) | decide)
local macro_rules | `(tactic| walk_at "gf") => `(tactic| repeat (first | ((with_reducible apply L2.ixT); assumption; rfl) | ((with_reducible apply L2.ixL); assumption; rfl) | ((with_reducible apply L2.FoR.lst); assumption) | ((with_reducible apply L2.FoR.tup); assumption) | ((with_reducible apply L2.FoR.len); assumption) | ((with_reducible apply L2.FoR.lenT); assumption) | ((with_reducible apply And.intro); (walk_at "sd")) | walk_at "rf"))

namespace My
open PySem L2 PyProof.Rows
def top (i : Nat) : Stmt := PySem.Challenge.pw_boardsight_k13_boards_refused.main.body.getD i (.Pass ⟨0, 0, 0, 0⟩)
abbrev s_sign_of : Stmt := top 15
abbrev s_greatest_divisor : Stmt := top 17
abbrev s_in_lowest_terms : Stmt := top 18
abbrev s_crossed : Stmt := top 19
abbrev s_determinant : Stmt := top 20
abbrev s_stands_first : Stmt := top 22
abbrev s_without : Stmt := top 23
abbrev s_minor_of : Stmt := top 24
abbrev s_in_line : Stmt := top 25
abbrev s_made_plane : Stmt := top 27
abbrev s_turned_about : Stmt := top 28
abbrev s_is_plain : Stmt := top 29
abbrev s_rough_plane : Stmt := top 30
abbrev s_plane_through : Stmt := top 31
abbrev s_height_over : Stmt := top 32
abbrev s_side_of : Stmt := top 33
abbrev s_formed : Stmt := top 36
abbrev s_flat_axis : Stmt := top 37
abbrev s_side_of_edge : Stmt := top 38
abbrev s_is_convex : Stmt := top 39
abbrev s_made_board : Stmt := top 40
abbrev s__law_next : Stmt := top 42
abbrev s__law_left : Stmt := top 43
abbrev s__law_divisor : Stmt := top 44
abbrev s__law_lowest : Stmt := top 45
abbrev s__law_cross : Stmt := top 46
abbrev s__law_sheet : Stmt := top 48
abbrev s__law_spot : Stmt := top 50
abbrev s__law_bent : Stmt := top 54
abbrev s__law_within : Stmt := top 55
abbrev s__law_lifted : Stmt := top 56
abbrev s__law_spoilt : Stmt := top 57
abbrev s__law_refused : Stmt := top 58
abbrev s_law : Stmt := top 59
def Small (i : Int) : Prop := i.natAbs < 2 ^ 1990
theorem Small.neg {i : Int} (h : Small i) : Small (-i) := by unfold Small at *; rw [Int.natAbs_neg]; exact h
theorem Small.ite {c : Prop} [Decidable c] {i j : Int} (h : Small i) (h' : Small j) : Small (if c then i else j) := by split <;> assumption
theorem Small.bd {i : Int} (h : Small i) : Bd 1990 i := h
theorem Small.of {i : Int} (h1 : -1606938044258990275541962092341162602522202993782792835301376 < i) (h2 : i < 1606938044258990275541962092341162602522202993782792835301376) : Small i := (Bd.of h1 h2).mono
theorem Small.div {i g : Int} (h : Small i) : Small (i / g) := Nat.lt_of_le_of_lt (Int.natAbs_ediv_le_natAbs i g) h
theorem small_gl {ns : List Int} (h : ∀ n ∈ ns, Small n) : Small (gl ns) := by
  by_cases c : ∃ n ∈ ns, n ≠ 0
  · obtain ⟨n, hn, h0⟩ := c
    have z := Int.natAbs_dvd_natAbs.mpr (gl_dvd hn)
    exact Nat.lt_of_le_of_lt (Nat.le_of_dvd (by omega) z) (h n hn)
  · have z : (0 : Int) ∣ gl ns := dvd_gl fun n hn => by
      have : n = 0 := Classical.byContradiction fun q => c ⟨n, hn, q⟩
      rw [this]; exact Int.dvd_refl 0
    rw [Int.zero_dvd.mp z]
    exact Nat.two_pow_pos _
theorem Same.keep {H H' : Hp} {p : Addr} {o : HO} (h : Same H H') (n : H p = none) : Same H (upd H' p o) := fun b u q => by rw [upd_ne (ne_of_none q n)]; exact h b u q
theorem int_of {ns : List Int} {i : Nat} {v : V} (h : (ns.map V.int)[i]? = some v) : ∃ z, v = V.int z ∧ ns[i]? = some z := by
  rw [List.getElem?_map] at h
  cases e : ns[i]? with
  | none => rw [e] at h; cases h
  | some z => rw [e] at h; exact ⟨z, (Option.some.inj h).symm, rfl⟩
def spGd : Sp := fun vs H Q _ => ∃ a b : Int, vs = [.int a, .int b] ∧ Small a ∧ Small b ∧ Q (.int (Int.gcd a b : Nat)) H
def spLow : Sp := fun vs H Q _ => ∃ (a : Addr) (ns : List Int), vs = [.ref a] ∧ H a = some (.tup (ns.map V.int)) ∧ ns.length ≤ 10 ∧ (∀ n ∈ ns, Small n) ∧ gl ns ≠ 0 ∧
  ∀ (r : Addr) (H' : Hp), Same H H' → H' r = some (.tup ((ns.map (· / gl ns)).map V.int)) → Q (.ref r) H'
def spLaw (K : PySem.W.Frag) : Sp := fun vs H Q _ => ∃ (a : Addr) (ns : List Int), vs = [.ref a] ∧ SqL K H a (ns.map V.int) ∧ ns.length ≤ 63 ∧ ∀ H', Q (.bl true) H'
/-! ### what the top has written -/
structure Tx (K : PySem.W.Frag) (mg : Str → Option Value) (t1 t2 : Tok) : Prop where
  m_abs : mg "abs" = none
  m_max : mg "max" = none
  m_min : mg "min" = none
  m_len : mg "len" = none
  m_range : mg "range" = none
  m_tuple : mg "tuple" = none
  m_int : mg "int" = none
  m_isinstance : mg "isinstance" = none
  m_list : mg "list" = none
  m_reversed : mg "reversed" = none
  m_sum : mg "sum" = none
  m_SHORT_BITS : mg "SHORT_BITS" = some (.int 2000 t1)
  m_MOST_CORNERS : mg "MOST_CORNERS" = some (.int 8 t2)
theorem Tx.r_SHORT_BITS {K : PySem.W.Frag} {mg : Str → Option Value} {t1 t2 : Tok} (_ : Tx K mg t1 t2) : RelV (.int 2000) (.int 2000 t1) := ⟨_, rfl⟩
theorem Tx.r_MOST_CORNERS {K : PySem.W.Frag} {mg : Str → Option Value} {t1 t2 : Tok} (_ : Tx K mg t1 t2) : RelV (.int 8) (.int 8 t2) := ⟨_, rfl⟩
def low (ns : List Int) : List Int := ns.map (· / gl ns)
def Sm2 (i : Int) : Prop := i.natAbs < 2 ^ 200
theorem Sm2.bd {i : Int} (h : Sm2 i) : Bd 1990 i := Bd.mono (n := 200) h
theorem Sm2.of {i : Int} (h1 : -1606938044258990275541962092341162602522202993782792835301376 < i) (h2 : i < 1606938044258990275541962092341162602522202993782792835301376) : Sm2 i := Bd.of h1 h2
theorem Sm2.div {i g : Int} (h : Sm2 i) : Sm2 (i / g) := Nat.lt_of_le_of_lt (Int.natAbs_ediv_le_natAbs i g) h
structure Pt where
  x : Int
  y : Int
  z : Int
  w : Int
def Pt.sm (p : Pt) : Prop := Sm2 p.x ∧ Sm2 p.y ∧ Sm2 p.z ∧ Sm2 p.w
def Is4 (H : Hp) (r : Addr) (p : Pt) : Prop := H r = some (.tup [.int p.x, .int p.y, .int p.z, .int p.w]) ∧ p.sm
theorem Is4.keep {H H' : Hp} {r : Addr} {p : Pt} (h : Is4 H r p) (s : Same H H') : Is4 H' r p := ⟨s _ _ h.1, h.2⟩
theorem Is4.sq {K : PySem.W.Frag} {H : Hp} {r : Addr} {p : Pt} (h : Is4 H r p) : SqT K H r [.int p.x, .int p.y, .int p.z, .int p.w] := SqT.of h.1
theorem Pt.sm.fx {p : Pt} (h : p.sm) : Fit p.x := h.1.bd.fit
theorem Pt.sm.fy {p : Pt} (h : p.sm) : Fit p.y := h.2.1.bd.fit
theorem Pt.sm.fz {p : Pt} (h : p.sm) : Fit p.z := h.2.2.1.bd.fit
theorem Pt.sm.fw {p : Pt} (h : p.sm) : Fit p.w := h.2.2.2.bd.fit
def wo (k : Int) (p : Pt) : List Int := if k = 0 then [p.y, p.z, p.w] else if k = 1 then [p.x, p.z, p.w] else if k = 2 then [p.x, p.y, p.w] else [p.x, p.y, p.z]
def det3 (a b c x y z u v w : Int) : Int := (b * z - c * y) * u + (c * x - a * z) * v + (a * y - b * x) * w
def detL : List Int → List Int → List Int → Int
  | [a, b, c], [x, y, z], [u, v, w] => det3 a b c x y z u v w
  | _, _, _ => 0
def minor (k : Int) (p q r : Pt) : Int := detL (wo k p) (wo k q) (wo k r)
def inl (p q r : Pt) : Bool := decide (minor 0 p q r = 0 ∧ minor 1 p q r = 0 ∧ minor 2 p q r = 0)
def Tup3 (H : Hp) (r : Addr) (a b c : Int) : Prop := H r = some (.tup [.int a, .int b, .int c]) ∧ Sm2 a ∧ Sm2 b ∧ Sm2 c
def spCross : Sp := fun vs H Q _ => ∃ (r p : Addr) (a b c x y z : Int), vs = [.ref r, .ref p] ∧ Tup3 H r a b c ∧ Tup3 H p x y z ∧
  ∀ (t : Addr) (H' : Hp), Same H H' → H' t = some (.tup [.int (b * z - c * y), .int (c * x - a * z), .int (a * y - b * x)]) → Q (.ref t) H'
def spDet : Sp := fun vs H Q _ => ∃ (r p s : Addr) (a b c x y z u v w : Int), vs = [.ref r, .ref p, .ref s] ∧ Tup3 H r a b c ∧ Tup3 H p x y z ∧ Tup3 H s u v w ∧ ∀ H' : Hp, Same H H' → Q (.int (det3 a b c x y z u v w)) H'
def spWithout : Sp := fun vs H Q _ => ∃ (r : Addr) (k : Int) (p : Pt), vs = [.ref r, .int k] ∧ Is4 H r p ∧ 0 ≤ k ∧ k ≤ 3 ∧ ∀ (t : Addr) (H' : Hp), Same H H' → H' t = some (.tup ((wo k p).map V.int)) → Q (.ref t) H'
def spMinor : Sp := fun vs H Q _ => ∃ (r s t : Addr) (k : Int) (p q o : Pt), vs = [.ref r, .ref s, .ref t, .int k] ∧ Is4 H r p ∧ Is4 H s q ∧ Is4 H t o ∧ 0 ≤ k ∧ k ≤ 3 ∧ ∀ H' : Hp, Same H H' → Q (.int (minor k p q o)) H'
def spLine : Sp := fun vs H Q _ => ∃ (r s t : Addr) (p q o : Pt), vs = [.ref r, .ref s, .ref t] ∧ Is4 H r p ∧ Is4 H s q ∧ Is4 H t o ∧ ∀ H' : Hp, Same H H' → Q (.bl (inl p q o)) H'
def spTurned : Sp := fun vs H Q _ => ∃ (r : Addr) (ns : List Int), vs = [.ref r] ∧ H r = some (.tup (ns.map V.int)) ∧ ns.length ≤ 10 ∧ ∀ (t : Addr) (H' : Hp), Same H H' → H' t = some (.tup ((ns.map fun n => -n).map V.int)) → Q (.ref t) H'
def plb (a b c : Int) : Bool := if a ≠ 0 then decide (0 < a) else if b ≠ 0 then decide (0 < b) else if c ≠ 0 then decide (0 < c) else false
def spPlain : Sp := fun vs H Q _ => ∃ (r : Addr) (a b c d : Int), vs = [.ref r] ∧ H r = some (.tup [.int a, .int b, .int c, .int d]) ∧ ∀ H' : Hp, Same H H' → Q (.bl (plb a b c)) H'
def rgh (p o u : Pt) : List Int := [minor 0 p o u, -minor 1 p o u, minor 2 p o u, minor 3 p o u]
def spRough : Sp := fun vs H Q _ => ∃ (r e t : Addr) (p o u : Pt), vs = [.ref r, .ref e, .ref t] ∧ Is4 H r p ∧ Is4 H e o ∧ Is4 H t u ∧ ∀ (g : Addr) (H' : Hp), Same H H' → H' g = some (.tup ((rgh p o u).map V.int)) → Q (.ref g) H'
def pln (ns : List Int) : List Int := match low ns with
  | [a, b, c, d] => if plb a b c = true then [a, b, c, d] else [-a, -b, -c, -d]
  | l => l
def noArrow (p o u : Pt) : Prop := minor 0 p o u = 0 ∧ minor 1 p o u = 0 ∧ minor 2 p o u = 0
def hgt (a b c d : Int) (p : Pt) : Int := a * p.x + b * p.y + c * p.z - d * p.w
def sgn (n : Int) : Int := if n > 0 then 1 else if n < 0 then -1 else 0
def spSign : Sp := fun vs H Q _ => ∃ n : Int, vs = [.int n] ∧ Q (.int (sgn n)) H
def sf (x y z w x' y' z' w' : Int) : Bool := if x * w' ≠ x' * w then decide (x * w' < x' * w) else if y * w' ≠ y' * w then decide (y * w' < y' * w) else if z * w' ≠ z' * w then decide (z * w' < z' * w) else false
def sfp (p o : Pt) : Bool := sf p.x p.y p.z p.w o.x o.y o.z o.w
def spFirst : Sp := fun vs H Q _ => ∃ (r e : Addr) (p o : Pt), vs = [.ref r, .ref e] ∧ Is4 H r p ∧ Is4 H e o ∧ Q (.bl (sfp p o)) H
def spPlane : Sp := fun vs H Q _ => ∃ a b c d : Int, vs = [.int a, .int b, .int c, .int d] ∧ Small a ∧ Small b ∧ Small c ∧ Small d ∧ ¬ (a = 0 ∧ b = 0 ∧ c = 0) ∧ ∀ (r : Addr) (H' : Hp), Same H H' → H' r = some (.tup ((low [a, b, c, d]).map V.int)) → Q (.ref r) H'
def spThrough : Sp := fun vs H Q _ => ∃ (r e t : Addr) (p o u : Pt), vs = [.ref r, .ref e, .ref t] ∧ Is4 H r p ∧ Is4 H e o ∧ Is4 H t u ∧ ¬ noArrow p o u ∧ ∀ (g : Addr) (H' : Hp), Same H H' → H' g = some (.tup ((pln (rgh p o u)).map V.int)) → Q (.ref g) H'
def spHt : Sp := fun vs H Q _ => ∃ (r e : Addr) (a b c d : Int) (p : Pt), vs = [.ref r, .ref e] ∧ H r = some (.tup [.int a, .int b, .int c, .int d]) ∧ Small a ∧ Small b ∧ Small c ∧ Small d ∧ Is4 H e p ∧ Q (.int (hgt a b c d p)) H
def spSide : Sp := fun vs H Q _ => ∃ (r e : Addr) (a b c d : Int) (p : Pt), vs = [.ref r, .ref e] ∧ H r = some (.tup [.int a, .int b, .int c, .int d]) ∧ Small a ∧ Small b ∧ Small c ∧ Small d ∧ Is4 H e p ∧ Q (.int (sgn (hgt a b c d p))) H
/-- references to spots -/
inductive Sps (H : Hp) : List Addr → List Pt → Prop
  | nil : Sps H [] []
  | cons {r : Addr} {p : Pt} {rs : List Addr} {ps : List Pt} (h : Is4 H r p) (t : Sps H rs ps) : Sps H (r :: rs) (p :: ps)
theorem Sps.keep {H H' : Hp} {rs : List Addr} {ps : List Pt} (h : Sps H rs ps) (s : SameT H H') : Sps H' rs ps := by
  induction h with
  | nil => exact .nil
  | cons h _ ih => exact .cons ⟨s _ _ h.1, h.2⟩ ih
theorem Sps.len {H : Hp} {rs : List Addr} {ps : List Pt} (h : Sps H rs ps) : rs.length = ps.length := by
  induction h with
  | nil => rfl
  | cons h _ ih => rw [List.length_cons, List.length_cons, ih]
theorem Sps.app {H : Hp} {rs rs' : List Addr} {ps ps' : List Pt} (h : Sps H rs ps) (k : Sps H rs' ps') : Sps H (rs ++ rs') (ps ++ ps') := by
  induction h with
  | nil => exact k
  | cons h _ ih => exact .cons h ih
theorem Sps.rev {H : Hp} {rs : List Addr} {ps : List Pt} (h : Sps H rs ps) : Sps H rs.reverse ps.reverse := by
  induction h with
  | nil => exact .nil
  | cons h _ ih =>
    rw [List.reverse_cons, List.reverse_cons]
    exact ih.app (.cons h .nil)
theorem Sps.drop {H : Hp} {rs : List Addr} {ps : List Pt} (h : Sps H rs ps) : ∀ n, Sps H (rs.drop n) (ps.drop n) := by
  induction h with
  | nil => intro n; rw [List.drop_nil, List.drop_nil]; exact .nil
  | cons h k ih =>
    intro n
    cases n with
    | zero => exact .cons h k
    | succ n => exact ih n
theorem Sps.take {H : Hp} {rs : List Addr} {ps : List Pt} (h : Sps H rs ps) : ∀ n, Sps H (rs.take n) (ps.take n) := by
  induction h with
  | nil => intro n; rw [List.take_nil, List.take_nil]; exact .nil
  | cons h k ih =>
    intro n
    cases n with
    | zero => exact .nil
    | succ n => exact .cons h (ih n)
def p0 : Pt := ⟨0, 0, 0, 0⟩
def pt (ps : List Pt) (i : Nat) : Pt := ps.getD i p0
def ad (rs : List Addr) (i : Nat) : Addr := rs.getD i 0
theorem Sps.get {H : Hp} {rs : List Addr} {ps : List Pt} (h : Sps H rs ps) : ∀ {i : Nat}, i < ps.length → (rs.map V.ref)[i]? = some (.ref (ad rs i)) ∧ Is4 H (ad rs i) (pt ps i) := by
  induction h with
  | nil => intro i hi; exact absurd hi (by simp)
  | cons h k ih =>
    intro i hi
    cases i with
    | zero => exact ⟨rfl, h⟩
    | succ i => exact ih (by simpa using hi)
theorem atI_neg1 {α : Type} {xs : List α} {v : α} {n : Nat} (hn : xs.length = n + 1) (h : xs[n]? = some v) : atI xs (-1) = some v := by
  have e : xs = xs.take n ++ [v] := by
    have z := List.take_add_one (l := xs) (i := n)
    rw [h, ← hn, List.take_length] at z
    exact z
  rw [e]
  exact atI_last _ _
theorem cut_drop {xs : List V} {f : Nat} : cutV xs (some (f : Int)) none = xs.drop f := by
  unfold cutV
  rw [HT.sIx_nat, HT.sIx_none]
  by_cases h : f ≤ xs.length
  · rw [Nat.min_eq_left h, List.take_of_length_le (by rw [List.length_drop]; exact Nat.le_refl _)]
  · rw [Nat.min_eq_right (by omega), List.drop_of_length_le (Nat.le_refl _), List.drop_of_length_le (by omega), List.take_nil]
theorem cut_take {xs : List V} {f : Nat} : cutV xs none (some (f : Int)) = xs.take f := by
  unfold cutV
  rw [HT.sIx_nat, HT.sIx_none]
  by_cases h : f ≤ xs.length
  · rw [Nat.min_eq_left h]
    rfl
  · rw [Nat.min_eq_right (by omega)]
    show xs.take (xs.length - 0) = _
    rw [Nat.sub_zero, List.take_length, List.take_of_length_le (by omega)]
/-- the corner that stands first, among the first i + 1 -/
def argF (ps : List Pt) : Nat → Nat
  | 0 => 0
  | i + 1 => if sfp (pt ps (i + 1)) (pt ps (argF ps i)) = true then i + 1 else argF ps i
theorem argF_le (ps : List Pt) : ∀ i, argF ps i ≤ i
  | 0 => Nat.le_refl _
  | i + 1 => by
    have := argF_le ps i
    unfold argF
    split <;> omega
def rot {α : Type} (f : Nat) (l : List α) : List α := l.drop f ++ l.take f
def turn {α : Type} (b : Bool) (l : List α) : List α := if b = true then l.take 1 ++ (l.drop 1).reverse else l
def fF (ps : List Pt) : Nat := argF ps (ps.length - 1)
def fB (ps : List Pt) : Bool := sfp (pt (rot (fF ps) ps) (ps.length - 1)) (pt (rot (fF ps) ps) 1)
def frm {α : Type} (ps : List Pt) (l : List α) : List α := turn (fB ps) (rot (fF ps) l)
theorem Sps.rot {H : Hp} {rs : List Addr} {ps : List Pt} (h : Sps H rs ps) (f : Nat) : Sps H (rot f rs) (rot f ps) := (h.drop f).app (h.take f)
theorem Sps.turn {H : Hp} {rs : List Addr} {ps : List Pt} (h : Sps H rs ps) (b : Bool) : Sps H (turn b rs) (turn b ps) := by
  unfold My.turn
  cases b
  · exact h
  · exact (h.take 1).app (h.drop 1).rev
theorem Sps.frm {H : Hp} {rs : List Addr} {ps qs : List Pt} (h : Sps H rs qs) : Sps H (frm ps rs) (frm ps qs) := (h.rot _).turn _
def Cor (H : Hp) (l : Addr) (rs : List Addr) (ps : List Pt) : Prop := H l = some (.lst (rs.map V.ref)) ∧ Sps H rs ps
theorem Cor.keep {H H' : Hp} {l : Addr} {rs : List Addr} {ps : List Pt} (h : Cor H l rs ps) (s : Same H H') : Cor H' l rs ps := ⟨s _ _ h.1, h.2.keep s.t⟩
def spFormed : Sp := fun vs H Q _ => ∃ (l : Addr) (rs : List Addr) (ps : List Pt), vs = [.ref l] ∧ Cor H l rs ps ∧ 3 ≤ ps.length ∧ ps.length ≤ 8 ∧
  ∀ (t : Addr) (H' : Hp), Same H H' → H' t = some (.tup ((frm ps rs).map V.ref)) → Q (.ref t) H'
def spAxis : Sp := fun vs H Q _ => ∃ (r : Addr) (a b c d : Int), vs = [.ref r] ∧ H r = some (.tup [.int a, .int b, .int c, .int d]) ∧ ¬ (a = 0 ∧ b = 0 ∧ c = 0) ∧ ∀ k : Int, (k = 0 ∧ a ≠ 0) ∨ (k = 1 ∧ a = 0 ∧ b ≠ 0) ∨ (k = 2 ∧ a = 0 ∧ b = 0 ∧ c ≠ 0) → Q (.int k) H
def spEdge : Sp := fun vs H Q _ => ∃ (g r e t : Addr) (k : Int) (p o u : Pt), vs = [.ref g, .ref t, .int k] ∧ H g = some (.tup [.ref r, .ref e]) ∧ Is4 H r p ∧ Is4 H e o ∧ Is4 H t u ∧ 0 ≤ k ∧ k ≤ 3 ∧ ∀ H' : Hp, Same H H' → Q (.int (sgn (minor k p o u))) H'
/-- every corner turns one way -/
def Rnd (k : Int) (ps : List Pt) : Prop := ∀ i j, i < ps.length → 1 ≤ j → j < ps.length - 1 → sgn (minor k (pt ps ((i + (ps.length - 1)) % ps.length)) (pt ps i) (pt ps ((i + j) % ps.length))) = sgn (minor k (pt ps 0) (pt ps 1) (pt ps 2))
structure Brd (ps : List Pt) : Prop where
  n3 : 3 ≤ ps.length
  n8 : ps.length ≤ 8
  na : ¬ noArrow (pt ps 0) (pt ps 1) (pt ps 2)
  flat : ∀ i, i < ps.length → hgt (minor 0 (pt ps 0) (pt ps 1) (pt ps 2)) (-minor 1 (pt ps 0) (pt ps 1) (pt ps 2)) (minor 2 (pt ps 0) (pt ps 1) (pt ps 2)) (minor 3 (pt ps 0) (pt ps 1) (pt ps 2)) (pt ps i) = 0
  rnd : ∀ k : Int, 0 ≤ k → k ≤ 2 → minor k (pt ps 0) (pt ps 1) (pt ps 2) ≠ 0 → Rnd k ps
section
variable {P : Program} {w : World} {K : PySem.W.Frag} {mg : Str → Option Value} {base : Heap} {t1 t2 : Tok}
theorem sc_sign_of : FnScope ["number"] ["number"] (defScope s_sign_of) := ⟨rfl, rfl, rfl, by decide +kernel, rfl, by decide +kernel, by decide +kernel⟩
theorem sc_greatest_divisor : FnScope ["one", "other", "great", "small", "steps", "rest"] ["one", "other"] (defScope s_greatest_divisor) := ⟨rfl, rfl, rfl, by decide +kernel, rfl, by decide +kernel, by decide +kernel⟩
theorem sc_in_lowest_terms : FnScope ["numbers", "divisor", "number"] ["numbers"] (defScope s_in_lowest_terms) := ⟨rfl, rfl, rfl, by decide +kernel, rfl, by decide +kernel, by decide +kernel⟩
theorem sc_crossed : FnScope ["one", "other"] ["one", "other"] (defScope s_crossed) := ⟨rfl, rfl, rfl, by decide +kernel, rfl, by decide +kernel, by decide +kernel⟩
theorem sc_determinant : FnScope ["one", "other", "third", "arrow"] ["one", "other", "third"] (defScope s_determinant) := ⟨rfl, rfl, rfl, by decide +kernel, rfl, by decide +kernel, by decide +kernel⟩
theorem sc_stands_first : FnScope ["one", "other", "k", "mine", "yours"] ["one", "other"] (defScope s_stands_first) := ⟨rfl, rfl, rfl, by decide +kernel, rfl, by decide +kernel, by decide +kernel⟩
theorem sc_without : FnScope ["spot", "place"] ["spot", "place"] (defScope s_without) := ⟨rfl, rfl, rfl, by decide +kernel, rfl, by decide +kernel, by decide +kernel⟩
theorem sc_minor_of : FnScope ["one", "other", "third", "place"] ["one", "other", "third", "place"] (defScope s_minor_of) := ⟨rfl, rfl, rfl, by decide +kernel, rfl, by decide +kernel, by decide +kernel⟩
theorem sc_in_line : FnScope ["one", "other", "third", "place"] ["one", "other", "third"] (defScope s_in_line) := ⟨rfl, rfl, rfl, by decide +kernel, rfl, by decide +kernel, by decide +kernel⟩
theorem sc_made_plane : FnScope ["a", "b", "c", "d"] ["a", "b", "c", "d"] (defScope s_made_plane) := ⟨rfl, rfl, rfl, by decide +kernel, rfl, by decide +kernel, by decide +kernel⟩
theorem sc_turned_about : FnScope ["plane"] ["plane"] (defScope s_turned_about) := ⟨rfl, rfl, rfl, by decide +kernel, rfl, by decide +kernel, by decide +kernel⟩
theorem sc_is_plain : FnScope ["plane", "number"] ["plane"] (defScope s_is_plain) := ⟨rfl, rfl, rfl, by decide +kernel, rfl, by decide +kernel, by decide +kernel⟩
theorem sc_rough_plane : FnScope ["one", "other", "third"] ["one", "other", "third"] (defScope s_rough_plane) := ⟨rfl, rfl, rfl, by decide +kernel, rfl, by decide +kernel, by decide +kernel⟩
theorem sc_plane_through : FnScope ["one", "other", "third", "rough", "plane"] ["one", "other", "third"] (defScope s_plane_through) := ⟨rfl, rfl, rfl, by decide +kernel, rfl, by decide +kernel, by decide +kernel⟩
theorem sc_height_over : FnScope ["plane", "spot"] ["plane", "spot"] (defScope s_height_over) := ⟨rfl, rfl, rfl, by decide +kernel, rfl, by decide +kernel, by decide +kernel⟩
theorem sc_side_of : FnScope ["plane", "spot"] ["plane", "spot"] (defScope s_side_of) := ⟨rfl, rfl, rfl, by decide +kernel, rfl, by decide +kernel, by decide +kernel⟩
theorem sc_formed : FnScope ["corners", "first", "k", "ring"] ["corners"] (defScope s_formed) := ⟨rfl, rfl, rfl, by decide +kernel, rfl, by decide +kernel, by decide +kernel⟩
theorem sc_flat_axis : FnScope ["plane", "axis"] ["plane"] (defScope s_flat_axis) := ⟨rfl, rfl, rfl, by decide +kernel, rfl, by decide +kernel, by decide +kernel⟩
theorem sc_side_of_edge : FnScope ["edge", "spot", "axis"] ["edge", "spot", "axis"] (defScope s_side_of_edge) := ⟨rfl, rfl, rfl, by decide +kernel, rfl, by decide +kernel, by decide +kernel⟩
theorem sc_is_convex : FnScope ["corners", "axis", "turn", "many", "k", "edge", "ahead"] ["corners", "axis"] (defScope s_is_convex) := ⟨rfl, rfl, rfl, by decide +kernel, rfl, by decide +kernel, by decide +kernel⟩
theorem sc_made_board : FnScope ["corners", "plane", "corner"] ["corners"] (defScope s_made_board) := ⟨rfl, rfl, rfl, by decide +kernel, rfl, by decide +kernel, by decide +kernel⟩
theorem sc__law_next : FnScope ["left", "base", "digit"] ["left", "base"] (defScope s__law_next) := ⟨rfl, rfl, rfl, by decide +kernel, rfl, by decide +kernel, by decide +kernel⟩
theorem sc__law_left : FnScope ["cell", "near", "far", "k"] ["cell"] (defScope s__law_left) := ⟨rfl, rfl, rfl, by decide +kernel, rfl, by decide +kernel, by decide +kernel⟩
theorem sc__law_divisor : FnScope ["numbers", "found", "number", "other"] ["numbers"] (defScope s__law_divisor) := ⟨rfl, rfl, rfl, by decide +kernel, rfl, by decide +kernel, by decide +kernel⟩
theorem sc__law_lowest : FnScope ["numbers", "by"] ["numbers"] (defScope s__law_lowest) := ⟨rfl, rfl, rfl, by decide +kernel, rfl, by decide +kernel, by decide +kernel⟩
theorem sc__law_cross : FnScope ["one", "other"] ["one", "other"] (defScope s__law_cross) := ⟨rfl, rfl, rfl, by decide +kernel, rfl, by decide +kernel, by decide +kernel⟩
theorem sc__law_sheet : FnScope ["left", "span", "numbers", "across", "some", "k", "up"] ["left"] (defScope s__law_sheet) := ⟨rfl, rfl, rfl, by decide +kernel, rfl, by decide +kernel, by decide +kernel⟩
theorem sc__law_spot : FnScope ["sheet", "place", "start", "w", "across", "up", "p", "q", "r", "found", "k", "far"] ["sheet", "place"] (defScope s__law_spot) := ⟨rfl, rfl, rfl, by decide +kernel, rfl, by decide +kernel, by decide +kernel⟩
theorem sc__law_bent : FnScope ["many"] ["many"] (defScope s__law_bent) := ⟨rfl, rfl, rfl, by decide +kernel, rfl, by decide +kernel, by decide +kernel⟩
theorem sc__law_within : FnScope ["shape"] ["shape"] (defScope s__law_within) := ⟨rfl, rfl, rfl, by decide +kernel, rfl, by decide +kernel, by decide +kernel⟩
theorem sc__law_lifted : FnScope ["spot", "sheet", "upright"] ["spot", "sheet"] (defScope s__law_lifted) := ⟨rfl, rfl, rfl, by decide +kernel, rfl, by decide +kernel, by decide +kernel⟩
theorem sc__law_spoilt : FnScope ["left", "sheet", "way", "shape", "at", "s", "t", "spots"] ["left", "sheet", "way"] (defScope s__law_spoilt) := ⟨rfl, rfl, rfl, by decide +kernel, rfl, by decide +kernel, by decide +kernel⟩
theorem sc__law_refused : FnScope ["corners", "error", "e"] ["corners"] (defScope s__law_refused) := ⟨rfl, rfl, rfl, by decide +kernel, rfl, by decide +kernel, by decide +kernel⟩
theorem sc_law : FnScope ["script", "cell", "left", "sheet", "way"] ["script"] (defScope s_law) := ⟨rfl, rfl, rfl, by decide +kernel, rfl, by decide +kernel, by decide +kernel⟩
theorem ok_gd (T : Tx K mg t1 t2) (F : At K mg "greatest_divisor" s_greatest_divisor ["one", "other"] []) : DefOk P w K mg base CX0 1 "greatest_divisor" ["one", "other"] [] spGd := by
  refine F.ok sc_greatest_divisor (fun vs H Q E h => ?_) (fun f cdv A outer s H vs Q E hr h => ?_)
  · obtain ⟨a, b, rfl, _⟩ := h
    rfl
  obtain ⟨a, b, rfl, ha, hb, q⟩ := h
  have S := sc_greatest_divisor
  refine ⟨_, (pss_cons (ps_set (i := 2) S.nd rfl (Or.inl rfl) (pe_callB (call_max2 rfl) rfl T.m_max boot_max (pa_cons (pe_callB call_abs rfl T.m_abs boot_abs (pa_cons (pv 0) pa_nil se_nam)) (pa_cons (pe_callB call_abs rfl T.m_abs boot_abs (pa_cons (pv 1) pa_nil se_nam)) pa_nil se_cal) se_cal)))
    (pss_cons (ps_set (i := 3) S.nd rfl (Or.inl rfl) (pe_callB (call_min2 rfl) rfl T.m_min boot_min (pa_cons (pe_callB call_abs rfl T.m_abs boot_abs (pa_cons (pv 0) pa_nil se_nam)) (pa_cons (pe_callB call_abs rfl T.m_abs boot_abs (pa_cons (pv 1) pa_nil se_nam)) pa_nil se_cal) se_cal)))
    (pss_cons (ps_while PassesOwn.never (pt_cmpR op_gt (pe_bm0 PySem.F.plainAttrs_int PySem.F.slot_int_bit_length PySem.F.type_int_bit_length mt_bits (pv 3)) (pe_glob rfl T.m_SHORT_BITS T.r_SHORT_BITS) (nomark _)) pss_never)
    (pss_cons (ps_while PassesOwn.never (pt_cmpR op_ne (pv 3) pe_int (nomark _))
    (pss_cons (ps_set (i := 5) S.nd rfl (Or.inl rfl) (pe_op op_mod (pv 2) (pv 3)))
    (pss_cons (ps_set (i := 2) S.nd rfl (Or.inl rfl) (pv 3))
    (pss_one (ps_set (i := 3) S.nd rfl (Or.inl rfl) (pv 5))))))
    (pss_one (ps_ret (pv 2))))))), ?_⟩
  walk_at "rd"
  have hg : Int.gcd (if (if b < 0 then -b else b) > (if a < 0 then -a else a) then (if b < 0 then -b else b) else (if a < 0 then -a else a)) (if (if b < 0 then -b else b) < (if a < 0 then -a else a) then (if b < 0 then -b else b) else (if a < 0 then -a else a)) = Int.gcd a b := (gcd_maxmin _ _).trans (gcd_abs a b)
  have hM : 0 ≤ (if (if b < 0 then -b else b) > (if a < 0 then -a else a) then (if b < 0 then -b else b) else (if a < 0 then -a else a)) := by split <;> split <;> omega
  have hm : 0 ≤ (if (if b < 0 then -b else b) < (if a < 0 then -a else a) then (if b < 0 then -b else b) else (if a < 0 then -a else a)) := by split <;> split <;> omega
  have hs : Small (if (if b < 0 then -b else b) < (if a < 0 then -a else a) then (if b < 0 then -b else b) else (if a < 0 then -a else a)) := by
    exact Small.ite (Small.ite hb.neg hb) (Small.ite ha.neg ha)
  generalize (if (if b < 0 then -b else b) > (if a < 0 then -a else a) then (if b < 0 then -b else b) else (if a < 0 then -a else a)) = M at hg hM ⊢
  generalize (if (if b < 0 then -b else b) < (if a < 0 then -a else a) then (if b < 0 then -b else b) else (if a < 0 then -a else a)) = m at hg hm hs ⊢
  have hz : Builtin.Int.intBits m ≤ 1990 := L2.intBits_le hs
  refine ⟨fun _ σ H1 => σ = [some (.int a), some (.int b), some (.int M), some (.int m), none, none] ∧ H1 = H, ⟨0, rfl, rfl⟩, ?_⟩
  rintro _ σ H1 ⟨rfl, rfl⟩
  walk_at "rd"
  rw [if_neg (by omega)]
  refine ⟨fun n σ H2 => H2 = H1 ∧ ∃ (x y : Int) (o : Option V), σ = [some (.int a), some (.int b), some (.int x), some (.int y), none, o] ∧ 0 ≤ x ∧ 0 ≤ y ∧ Int.gcd x y = Int.gcd a b ∧ n = y.toNat, ⟨_, rfl, M, m, none, rfl, hM, hm, hg, rfl⟩, ?_⟩
  rintro n σ H2 ⟨rfl, x, y, o, rfl, hx, hy, hgg, rfl⟩
  walk_at "rd"
  by_cases c : y = 0
  · subst c
    rw [if_pos rfl]
    rw [← hgg, Int.gcd_zero_right] at q
    have e2 : ((x.natAbs : Nat) : Int) = x := by omega
    rw [e2] at q
    exact q
  · rw [if_neg c]
    have b1 := Int.emod_nonneg x c
    have b2 := Int.emod_lt_of_pos x (show 0 < y by omega)
    exact ⟨fun σ' H' => σ' = [some (V.int a), some (V.int b), some (V.int y), some (V.int (x % y)), none, some (V.int (x % y))] ∧ H' = H2, fun σ' H' ⟨h1, h2⟩ => ⟨_, by omega, h2, y, x % y, _, h1, by omega, b1, (gcd_step x y hx).trans hgg, rfl⟩, by omega, rfl, rfl⟩
theorem ok_low (T : Tx K mg t1 t2) (F : At K mg "in_lowest_terms" s_in_lowest_terms ["numbers"] []) (d_greatest_divisor : DefOk P w K mg base CX0 1 "greatest_divisor" ["one", "other"] [] spGd) : DefOk P w K mg base CX0 2 "in_lowest_terms" ["numbers"] [] spLow := by
  refine F.ok sc_in_lowest_terms (fun vs H Q E h => ?_) (fun f cdv A outer s H vs Q E hr h => ?_)
  · obtain ⟨a, ns, rfl, _⟩ := h
    rfl
  obtain ⟨a, ns, rfl, ha, hl, hs, hg, q⟩ := h
  have S := sc_in_lowest_terms
  refine ⟨_, (pss_cons (ps_set (i := 1) S.nd rfl (Or.inr rfl) pe_int)
    (pss_cons (ps_for PassesOwn.never rfl (pi_tup (pv 0)) (pg_name (i := 2) S.nd rfl (Or.inl rfl))
    (pss_cons (ps_set (i := 1) S.nd rfl (Or.inr rfl) (pe_callD d_greatest_divisor (hr.mono (by decide)) rfl pass0 (pa_cons (pv 1) (pa_cons (pv 2) pa_nil se_nam) se_nam)))
    (pss_one (ps_if (pt_cmpR op_eq (pv 1) pe_int (nomark _))
    (pss_one (ps_ret (pe_callTy call_tuple_of rfl T.m_tuple boot_tuple (pa_cons (pv 0) pa_nil se_nam))))
    pss_nil))))
    (pss_one (ps_ret (pe_callTy call_tuple_of rfl T.m_tuple boot_tuple (pa_cons (pe_comp rfl (N' := ["number", "divisor"]) (ix := [1]) ⟨rfl, rfl, by decide +kernel, by decide +kernel, rfl, by decide +kernel, (show ∀ y : Str × NameKind, y ∈ _ → y.2 = NameKind.free → (defScope s_in_lowest_terms).names.lookup y.1 = some .cell ∨ (defScope s_in_lowest_terms).names.lookup y.1 = some .free from by decide +kernel), (.cons rfl (.inl rfl) rfl .nil)⟩ (pi_tup (pv 0)) (fun _ _ _ _ => pg_name (i := 0) (show (["number", "divisor"] : List Str).Nodup from by decide +kernel) rfl (Or.inl rfl)) (fun _ _ _ _ => pts_nil) (fun _ _ _ _ => (pe_op op_fdivB (pv 0) (pv 1)))) pa_nil se_cmp)))))), ?_⟩
  walk_at "rd"
  refine ⟨_, rfl, a, rfl, ⟨_, SqT.of ha⟩, for_tup (K := K) (a := a) (xs := ns.map V.int) (fun i σ H2 => H2 = H ∧ ∃ o : Option V, σ = [some (.ref a), some (.int (gl (ns.take i))), o]) ⟨rfl, none, rfl⟩ (fun i σ H2 _ ⟨h, _⟩ => by rw [h]; exact SqT.of ha) ?_ ?_⟩
  · rintro i v σ H2 hi ⟨rfl, o, rfl⟩
    obtain ⟨z, rfl, hz⟩ := int_of hi
    walk_at "rd"
    refine ⟨_, _, rfl, small_gl fun n hn => hs n (List.mem_of_mem_take hn), hs z (List.mem_of_getElem? hz), ?_⟩
    walk_at "rd"
    rw [← gl_take_succ hz]
    refine ite2 (fun c => ⟨_, .inr ⟨SqT.of ha, ?_⟩⟩) fun c => ⟨rfl, _, rfl⟩
    have g1 : gl ns = 1 := gl_one_of_take c
    refine q a H2 (Same.refl _) ?_
    rw [g1, map_div_one]
    exact ha
  · rintro σ H2 ⟨rfl, o, rfl⟩
    walk_at "rd"
    have el : (ns.map V.int).length = ns.length := List.length_map _
    rw [el, List.take_length]
    have gp : 0 < gl ns := by have := gl_nonneg ns; omega
    refine ⟨_, rfl, a, rfl, ⟨_, SqT.of ha⟩, fun acc hacc => comp_tup (K := K) (a := a) (zs := ns.map V.int) (fun i xs H3 => Same H2 H3 ∧ H3 acc = some (.lst xs) ∧ xs = ((ns.take i).map (· / gl ns)).map V.int) ⟨Same.new hacc _, upd_same, rfl⟩ (fun i xs H3 _ h => h.1.tup (SqT.of ha)) ?_ ?_⟩
    · rintro i v xs H3 hi ⟨h1, h2, rfl⟩
      obtain ⟨z, rfl, hz⟩ := int_of hi
      walk_at "rd"
      have li := (List.getElem?_eq_some_iff.mp hz).1
      refine ⟨gp, (small_gl hs).bd.fit, h2, ?_, Same.keep h1 hacc, upd_same, ?_⟩
      · rw [List.length_map, List.length_map, List.length_take]
        exact small1000 (by omega)
      · rw [List.take_add_one, hz, List.map_append, List.map_append]
        rfl
    · rintro xs H3 ⟨h1, h2, rfl⟩
      rw [el, List.take_length] at h2
      exact ⟨acc, rfl, _, .inl ⟨SqL.of h2, fun l hl => q l _ (h1.trans (Same.new hl _)) upd_same⟩⟩
theorem ok_crossed (T : Tx K mg t1 t2) (F : At K mg "crossed" s_crossed ["one", "other"] []) : DefOk P w K mg base CX0 1 "crossed" ["one", "other"] [] spCross := by
  refine F.ok sc_crossed (fun vs H Q E h => ?_) (fun f cdv A outer s H vs Q E hr h => ?_)
  · obtain ⟨r, p, a, b, c, x, y, z, rfl, _⟩ := h
    rfl
  obtain ⟨r, p, a, b, c, x, y, z, rfl, ⟨h1, sa, sb, sc⟩, ⟨h2, sx, sy, sz⟩, q⟩ := h
  have S := sc_crossed
  refine ⟨_, (pss_one (ps_ret (pe_tup (pa_cons (pe_op op_sub (pe_op op_mulB (pe_ix ix_tup (pv 0) pe_int (fun _ _ => rfl)) (pe_ix ix_tup (pv 1) pe_int (fun _ _ => rfl))) (pe_op op_mulB (pe_ix ix_tup (pv 0) pe_int (fun _ _ => rfl)) (pe_ix ix_tup (pv 1) pe_int (fun _ _ => rfl)))) (pa_cons (pe_op op_sub (pe_op op_mulB (pe_ix ix_tup (pv 0) pe_int (fun _ _ => rfl)) (pe_ix ix_tup (pv 1) pe_int (fun _ _ => rfl))) (pe_op op_mulB (pe_ix ix_tup (pv 0) pe_int (fun _ _ => rfl)) (pe_ix ix_tup (pv 1) pe_int (fun _ _ => rfl)))) (pa_cons (pe_op op_sub (pe_op op_mulB (pe_ix ix_tup (pv 0) pe_int (fun _ _ => rfl)) (pe_ix ix_tup (pv 1) pe_int (fun _ _ => rfl))) (pe_op op_mulB (pe_ix ix_tup (pv 0) pe_int (fun _ _ => rfl)) (pe_ix ix_tup (pv 1) pe_int (fun _ _ => rfl)))) pa_nil se_bin) se_bin) se_bin)))), ?_⟩
  have k1 : SqT K H r [.int a, .int b, .int c] := SqT.of h1
  have k2 : SqT K H p [.int x, .int y, .int z] := SqT.of h2
  have fa := sa.bd.fit
  have fb := sb.bd.fit
  have fc := sc.bd.fit
  have fx := sx.bd.fit
  have fy := sy.bd.fit
  have fz := sz.bd.fit
  walk_at "rf"
  walk_at "gf"
  intro t ht
  exact q t _ (Same.new ht _) upd_same
theorem ok_det (T : Tx K mg t1 t2) (F : At K mg "determinant" s_determinant ["one", "other", "third"] []) (d_crossed : DefOk P w K mg base CX0 1 "crossed" ["one", "other"] [] spCross) : DefOk P w K mg base CX0 2 "determinant" ["one", "other", "third"] [] spDet := by
  refine F.ok sc_determinant (fun vs H Q E h => ?_) (fun f cdv A outer s H vs Q E hr h => ?_)
  · obtain ⟨r, p, e, a, b, c, x, y, z, u, v, o, rfl, _⟩ := h
    rfl
  obtain ⟨r, p, e, a, b, c, x, y, z, u, v, o, rfl, h1, h2, h3, q⟩ := h
  have S := sc_determinant
  refine ⟨_, (pss_cons (ps_set (i := 3) S.nd rfl (Or.inl rfl) (pe_callD d_crossed (hr.mono (by decide)) rfl pass0 (pa_cons (pv 0) (pa_cons (pv 1) pa_nil se_nam) se_nam)))
    (pss_one (ps_ret (pe_op op_add (pe_op op_add (pe_op op_mulB (pe_ix ix_tup (pv 3) pe_int (fun _ _ => rfl)) (pe_ix ix_tup (pv 2) pe_int (fun _ _ => rfl))) (pe_op op_mulB (pe_ix ix_tup (pv 3) pe_int (fun _ _ => rfl)) (pe_ix ix_tup (pv 2) pe_int (fun _ _ => rfl)))) (pe_op op_mulB (pe_ix ix_tup (pv 3) pe_int (fun _ _ => rfl)) (pe_ix ix_tup (pv 2) pe_int (fun _ _ => rfl))))))), ?_⟩
  walk_at "rf"
  refine ⟨r, p, a, b, c, x, y, z, rfl, h1, h2, fun t H1 s1 e1 => ?_⟩
  have k1 : SqT K H1 t _ := SqT.of e1
  have k2 : SqT K H1 e [.int u, .int v, .int o] := SqT.of (s1 _ _ h3.1)
  have fu := h3.2.1.bd.fit
  have fv := h3.2.2.1.bd.fit
  have fo := h3.2.2.2.bd.fit
  have ma : ∀ {i j k l : Int}, Sm2 i → Sm2 j → Sm2 k → Sm2 l → Fit (i * j - k * l) := fun h1 h2 h3 h4 => Bd.fit (n := 401) (Bd.sub (Bd.mul (n := 200) (m := 200) h1 h2) (Bd.mul (n := 200) (m := 200) h3 h4))
  have g1 := ma h1.2.2.1 h2.2.2.2 h1.2.2.2 h2.2.2.1
  have g2 := ma h1.2.2.2 h2.2.1 h1.2.1 h2.2.2.2
  have g3 := ma h1.2.1 h2.2.2.1 h1.2.2.1 h2.2.1
  walk_at "gf"
  exact q _ s1
theorem ok_without (T : Tx K mg t1 t2) (F : At K mg "without" s_without ["spot", "place"] []) : DefOk P w K mg base CX0 1 "without" ["spot", "place"] [] spWithout := by
  refine F.ok sc_without (fun vs H Q E h => ?_) (fun f cdv A outer s H vs Q E hr h => ?_)
  · obtain ⟨r, k, p, rfl, _⟩ := h
    rfl
  obtain ⟨r, k, p, rfl, h1, k0, k3, q⟩ := h
  have S := sc_without
  refine ⟨_, (pss_one (ps_ret (pe_callTy call_tuple_of rfl T.m_tuple boot_tuple (pa_cons (pe_comp rfl (N' := ["k", "spot", "place"]) (ix := [0, 1]) ⟨rfl, rfl, by decide +kernel, by decide +kernel, rfl, by decide +kernel, (show ∀ y : Str × NameKind, y ∈ _ → y.2 = NameKind.free → (defScope s_without).names.lookup y.1 = some .cell ∨ (defScope s_without).names.lookup y.1 = some .free from by decide +kernel), (.cons rfl (.inl rfl) rfl (.cons rfl (.inl rfl) rfl .nil))⟩ (pi_range1 rfl T.m_range (pa_cons pe_int pa_nil se_con)) (fun _ _ _ _ => pg_name (i := 0) (show (["k", "spot", "place"] : List Str).Nodup from by decide +kernel) rfl (Or.inl rfl)) (fun _ _ _ _ => (pts_one (pt_cmpR op_ne (pv 0) (pv 2) (nomark _)))) (fun _ _ _ _ => (pe_ix (ix_tupK (K := K) rfl) (pv 1) (pv 0) (fun _ _ => rfl)))) pa_nil se_cmp)))), ?_⟩
  have k_h1 := h1.sq (K := K)
  have e : k = 0 ∨ k = 1 ∨ k = 2 ∨ k = 3 := by omega
  walk_at "rf"
  walk_at "gf"
  intro acc hacc
  refine compRif (n := 4) (fun i => .int (match i with | 0 => p.x | 1 => p.y | 2 => p.z | _ => p.w)) (fun i => !decide ((i : Int) = k)) (by decide) hacc ?_ ?_ ?_
  · intro i H3 R hi s3 hR
    walk_at "rf"
    have z := hR H3 (Same.refl _)
    rw [Int.zero_add]
    exact z
  · intro i H3 R hi ci s3 hR
    have k1 := s3.tup k_h1
    match i, hi with
    | 0, _ =>
      walk_at "rf"
      walk_at "gf"
      exact hR _ (Same.refl _)
    | 1, _ =>
      walk_at "rf"
      walk_at "gf"
      exact hR _ (Same.refl _)
    | 2, _ =>
      walk_at "rf"
      walk_at "gf"
      exact hR _ (Same.refl _)
    | 3, _ =>
      walk_at "rf"
      walk_at "gf"
      exact hR _ (Same.refl _)
  intro H1 s1 e1
  refine FoR.tupOf (X := True) (SqL.of e1) fun t H2 s2 e2 => q t H2 (s1.trans s2) ?_
  rw [e2]
  rcases e with rfl | rfl | rfl | rfl <;> rfl
theorem wo_tup {H : Hp} {r : Addr} {k : Int} {p : Pt} (hp : p.sm) (h : H r = some (.tup ((wo k p).map V.int))) : ∃ a b c, wo k p = [a, b, c] ∧ Tup3 H r a b c := by
  by_cases k0 : k = 0
  · have e : wo k p = [p.y, p.z, p.w] := if_pos k0
    rw [e] at h
    exact ⟨_, _, _, e, h, hp.2.1, hp.2.2.1, hp.2.2.2⟩
  by_cases k1 : k = 1
  · have e : wo k p = [p.x, p.z, p.w] := by unfold wo; rw [if_neg k0, if_pos k1]
    rw [e] at h
    exact ⟨_, _, _, e, h, hp.1, hp.2.2.1, hp.2.2.2⟩
  by_cases k2 : k = 2
  · have e : wo k p = [p.x, p.y, p.w] := by unfold wo; rw [if_neg k0, if_neg k1, if_pos k2]
    rw [e] at h
    exact ⟨_, _, _, e, h, hp.1, hp.2.1, hp.2.2.2⟩
  have e : wo k p = [p.x, p.y, p.z] := by unfold wo; rw [if_neg k0, if_neg k1, if_neg k2]
  rw [e] at h
  exact ⟨_, _, _, e, h, hp.1, hp.2.1, hp.2.2.1⟩
theorem Tup3.keep {H H' : Hp} {r : Addr} {a b c : Int} (h : Tup3 H r a b c) (s : Same H H') : Tup3 H' r a b c := ⟨s _ _ h.1, h.2⟩
theorem ok_minor (T : Tx K mg t1 t2) (F : At K mg "minor_of" s_minor_of ["one", "other", "third", "place"] []) (d_without : DefOk P w K mg base CX0 1 "without" ["spot", "place"] [] spWithout) (d_determinant : DefOk P w K mg base CX0 2 "determinant" ["one", "other", "third"] [] spDet) : DefOk P w K mg base CX0 3 "minor_of" ["one", "other", "third", "place"] [] spMinor := by
  refine F.ok sc_minor_of (fun vs H Q E h => ?_) (fun f cdv A outer s H vs Q E hr h => ?_)
  · obtain ⟨r, e, t, k, p, o, u, rfl, _⟩ := h
    rfl
  obtain ⟨r, e, t, k, p, o, u, rfl, h1, h2, h3, k0, k3, q⟩ := h
  have S := sc_minor_of
  refine ⟨_, (pss_one (ps_ret (pe_callD d_determinant (hr.mono (by decide)) rfl pass0 (pa_cons (pe_callD d_without (hr.mono (by decide)) rfl pass0 (pa_cons (pv 0) (pa_cons (pv 3) pa_nil se_nam) se_nam)) (pa_cons (pe_callD d_without (hr.mono (by decide)) rfl pass0 (pa_cons (pv 1) (pa_cons (pv 3) pa_nil se_nam) se_nam)) (pa_cons (pe_callD d_without (hr.mono (by decide)) rfl pass0 (pa_cons (pv 2) (pa_cons (pv 3) pa_nil se_nam) se_nam)) pa_nil se_cal) se_cal) se_cal)))), ?_⟩
  walk_at "rf"
  refine ⟨r, k, p, rfl, h1, k0, k3, fun t1 H1 s1 e1 => ?_⟩
  refine ⟨e, k, o, rfl, h2.keep s1, k0, k3, fun t2 H2 s2 e2 => ?_⟩
  refine ⟨t, k, u, rfl, h3.keep (s1.trans s2), k0, k3, fun t3 H3 s3 e3 => ?_⟩
  obtain ⟨a, b, c, w1, z1⟩ := wo_tup h1.2 e1
  obtain ⟨a2, b2, c2, w2, z2⟩ := wo_tup h2.2 e2
  obtain ⟨a3, b3, c3, w3, z3⟩ := wo_tup h3.2 e3
  have em : minor k p o u = det3 a b c a2 b2 c2 a3 b3 c3 := by
    unfold minor
    rw [w1, w2, w3]
    rfl
  refine ⟨t1, t2, t3, a, b, c, a2, b2, c2, a3, b3, c3, rfl, z1.keep (s2.trans s3), z2.keep s3, z3, fun H4 s4 => ?_⟩
  rw [← em]
  exact q H4 (s1.trans (s2.trans (s3.trans s4)))
theorem ok_line (T : Tx K mg t1 t2) (F : At K mg "in_line" s_in_line ["one", "other", "third"] []) (d_minor_of : DefOk P w K mg base CX0 3 "minor_of" ["one", "other", "third", "place"] [] spMinor) : DefOk P w K mg base CX0 4 "in_line" ["one", "other", "third"] [] spLine := by
  refine F.ok sc_in_line (fun vs H Q E h => ?_) (fun f cdv A outer s H vs Q E hr h => ?_)
  · obtain ⟨r, e, t, p, o, u, rfl, _⟩ := h
    rfl
  obtain ⟨r, e, t, p, o, u, rfl, h1, h2, h3, q⟩ := h
  have S := sc_in_line
  refine ⟨_, (pss_cons (ps_for PassesOwn.never rfl (pi_range1 rfl T.m_range (pa_cons pe_int pa_nil se_con)) (pg_name (i := 3) S.nd rfl (Or.inl rfl))
    (pss_one (ps_if (pt_cmpR op_ne (pe_callD d_minor_of (hr.mono (by decide)) rfl pass0 (pa_cons (pv 0) (pa_cons (pv 1) (pa_cons (pv 2) (pa_cons (pv 3) pa_nil se_nam) se_nam) se_nam) se_nam)) pe_int (nomark _))
    (pss_one (ps_ret pe_bl))
    pss_nil)))
    (pss_one (ps_ret pe_bl))), ?_⟩
  walk_at "rf"
  walk_at "gf"
  refine for_range (lo := 0) (n := 3) (fun i σ H2 => Same H H2 ∧ ∃ o3 : Option V, σ = [some (.ref r), some (.ref e), some (.ref t), o3] ∧ (1 ≤ i → minor 0 p o u = 0) ∧ (2 ≤ i → minor 1 p o u = 0) ∧ (3 ≤ i → minor 2 p o u = 0)) ⟨Same.refl _, none, rfl, by simp, by simp, by simp⟩ ?_ ?_
  · rintro i σ H2 hi ⟨s2, o3, rfl, e0, e1, e2⟩
    walk_at "rf"
    refine ⟨r, e, t, _, p, o, u, rfl, h1.keep s2, h2.keep s2, h3.keep s2, by omega, by omega, fun H3 s3 => ?_⟩
    have ei : (0 : Int) + (i : Int) = (i : Int) := Int.zero_add _
    rw [ei]
    match i, hi with
    | 0, _ =>
      walk_at "rf"
      refine ite2 (fun c => ⟨s2.trans s3, fun _ => c, fun h => absurd h (by decide), fun h => absurd h (by decide)⟩) fun c => ?_
      have ef : inl p o u = false := decide_eq_false fun z => c z.1
      exact ef ▸ q H3 (s2.trans s3)
    | 1, _ =>
      have d0 := e0 (by decide)
      walk_at "rf"
      refine ite2 (fun c => ⟨s2.trans s3, fun _ => d0, fun _ => c, fun h => absurd h (by decide)⟩) fun c => ?_
      have ef : inl p o u = false := decide_eq_false fun z => c z.2.1
      exact ef ▸ q H3 (s2.trans s3)
    | 2, _ =>
      have d0 := e0 (by decide)
      have d1 := e1 (by decide)
      walk_at "rf"
      refine ite2 (fun c => ⟨s2.trans s3, fun _ => d0, fun _ => d1, fun _ => c⟩) fun c => ?_
      have ef : inl p o u = false := decide_eq_false fun z => c z.2.2
      exact ef ▸ q H3 (s2.trans s3)
  · rintro σ H2 ⟨s2, o3, rfl, e0, e1, e2⟩
    have ef : inl p o u = true := decide_eq_true ⟨e0 (by decide), e1 (by decide), e2 (by decide)⟩
    exact ef ▸ q H2 s2
theorem mem4 {a b c d : Int} (ha : Small a) (hb : Small b) (hc : Small c) (hd : Small d) : ∀ n ∈ [a, b, c, d], Small n := fun n hn => by
  simp only [List.mem_cons, List.not_mem_nil, or_false] at hn
  rcases hn with rfl | rfl | rfl | rfl <;> assumption
theorem gl4 {a b c d : Int} (h : ¬ (a = 0 ∧ b = 0 ∧ c = 0)) : 0 < gl [a, b, c, d] := by
  by_cases c1 : a = 0
  · by_cases c2 : b = 0
    · exact gl_pos (n := c) (by simp) fun z => h ⟨c1, c2, z⟩
    · exact gl_pos (n := b) (by simp) c2
  · exact gl_pos (n := a) (by simp) c1
def vneg (v : V) : V := match v with | .int i => .int (-i) | _ => v
theorem map_vneg (ns : List Int) : (ns.map V.int).map vneg = (ns.map fun n => -n).map V.int := by
  rw [List.map_map, List.map_map]
  rfl
theorem ok_turned (T : Tx K mg t1 t2) (F : At K mg "turned_about" s_turned_about ["plane"] []) : DefOk P w K mg base CX0 1 "turned_about" ["plane"] [] spTurned := by
  refine F.ok sc_turned_about (fun vs H Q E h => ?_) (fun f cdv A outer s H vs Q E hr h => ?_)
  · obtain ⟨r, ns, rfl, _⟩ := h
    rfl
  obtain ⟨r, ns, rfl, h1, hl, q⟩ := h
  have S := sc_turned_about
  refine ⟨_, (pss_one (ps_ret (pe_callTy call_tuple_of rfl T.m_tuple boot_tuple (pa_cons (pe_comp rfl (N' := ["number"]) (ix := []) ⟨rfl, rfl, by decide +kernel, by decide +kernel, rfl, by decide +kernel, (show ∀ y : Str × NameKind, y ∈ _ → y.2 = NameKind.free → (defScope s_turned_about).names.lookup y.1 = some .cell ∨ (defScope s_turned_about).names.lookup y.1 = some .free from by decide +kernel), .nil⟩ (pi_tup (pv 0)) (fun _ _ _ _ => pg_name (i := 0) (show (["number"] : List Str).Nodup from by decide +kernel) rfl (Or.inl rfl)) (fun _ _ _ _ => pts_nil) (fun _ _ _ _ => (pe_un un_neg (pv 0)))) pa_nil se_cmp)))), ?_⟩
  have k1 : SqT K H r (ns.map V.int) := SqT.of h1
  walk_at "rf"
  walk_at "gf"
  intro acc hacc
  refine compT vneg (by rw [List.length_map]; omega) hacc k1 ?_ ?_
  · intro z H3 R hz s3 hR
    obtain ⟨m, hm, rfl⟩ := List.mem_map.mp hz
    walk_at "rd"
    exact hR _ (Same.refl _)
  intro H1 s1 e1
  rw [map_vneg] at e1
  exact FoR.tupOf (X := True) (SqL.of e1) fun t H2 s2 e2 => q t H2 (s1.trans s2) e2
theorem ok_sign (T : Tx K mg t1 t2) (F : At K mg "sign_of" s_sign_of ["number"] []) : DefOk P w K mg base CX0 1 "sign_of" ["number"] [] spSign := by
  refine F.ok sc_sign_of (fun vs H Q E h => ?_) (fun f cdv A outer s H vs Q E hr h => ?_)
  · obtain ⟨a, rfl, _⟩ := h
    rfl
  obtain ⟨n, rfl, q⟩ := h
  have S := sc_sign_of
  refine ⟨_, (pss_cons (ps_if (pt_cmpR op_gt (pv 0) pe_int (nomark _))
    (pss_one (ps_ret pe_int))
    pss_nil)
    (pss_cons (ps_if (pt_cmpR op_lt (pv 0) pe_int (nomark _))
    (pss_one (ps_ret (pe_un un_neg pe_int)))
    pss_nil)
    (pss_one (ps_ret pe_int)))), ?_⟩
  unfold sgn at q
  walk_at "rd"
  refine ite2 (fun c => ?_) fun c => ite2 (fun c1 => ?_) fun c1 => ?_
  · rw [if_pos c] at q; exact q
  · rw [if_neg c, if_pos c1] at q; exact q
  · rw [if_neg c, if_neg c1] at q; exact q
theorem ok_plain (T : Tx K mg t1 t2) (F : At K mg "is_plain" s_is_plain ["plane"] []) : DefOk P w K mg base CX0 1 "is_plain" ["plane"] [] spPlain := by
  refine F.ok sc_is_plain (fun vs H Q E h => ?_) (fun f cdv A outer s H vs Q E hr h => ?_)
  · obtain ⟨r, a, b, c, d, rfl, _⟩ := h
    rfl
  obtain ⟨r, a, b, c, d, rfl, h1, q⟩ := h
  have S := sc_is_plain
  refine ⟨_, (pss_cons (ps_for PassesOwn.never rfl (pi_tup (pe_slice sl_tup (pv 0) po_none (po_some pe_int))) (pg_name (i := 1) S.nd rfl (Or.inl rfl))
    (pss_one (ps_if (pt_cmpR op_ne (pv 1) pe_int (nomark _))
    (pss_one (ps_ret (pe_cmpR op_gt (pv 1) pe_int (nomark _))))
    pss_nil)))
    (pss_one (ps_ret pe_bl))), ?_⟩
  walk_at "rf"
  refine ⟨r, _, rfl, SqT.of h1, (show ¬ (HT.sIx 4 0 none = 0 ∧ HT.sIx 4 4 (some 3) = 4) by decide), fun p hp => ?_⟩
  have sp := Same.new hp (.tup (cutV [.int a, .int b, .int c, .int d] none (some 3)))
  have ep : upd H p (.tup (cutV [.int a, .int b, .int c, .int d] none (some 3))) p = some (.tup ([a, b, c].map V.int)) := upd_same
  generalize upd H p (.tup (cutV [.int a, .int b, .int c, .int d] none (some 3))) = H1 at sp ep ⊢
  have kp : SqT K H1 p ([a, b, c].map V.int) := SqT.of ep
  walk_at "gf"
  have q := q H1 sp
  unfold plb at q
  refine for_tup (K := K) (a := p) (xs := [a, b, c].map V.int) (fun i σ H2 => H2 = H1 ∧ ∃ o1 : Option V, σ = [some (.ref r), o1] ∧ (1 ≤ i → a = 0) ∧ (2 ≤ i → b = 0) ∧ (3 ≤ i → c = 0)) ⟨rfl, none, rfl, by simp, by simp, by simp⟩ (fun i σ H2 _ ⟨h, _⟩ => by rw [h]; exact kp) ?_ ?_
  · rintro i v σ H2 hi ⟨rfl, o1, rfl, e0, e1, e2⟩
    match i, hi with
    | 0, hi =>
      cases hi
      walk_at "rf"
      refine ite2 (fun cc => ⟨fun _ => cc, fun h => absurd h (by decide), fun h => absurd h (by decide)⟩) fun cc => ?_
      rw [if_pos cc] at q
      exact q
    | 1, hi =>
      cases hi
      have d0 := e0 (by decide)
      walk_at "rf"
      refine ite2 (fun cc => ⟨fun _ => d0, fun _ => cc, fun h => absurd h (by decide)⟩) fun cc => ?_
      rw [if_neg (fun n => n d0), if_pos cc] at q
      exact q
    | 2, hi =>
      cases hi
      have d0 := e0 (by decide)
      have d1 := e1 (by decide)
      walk_at "rf"
      refine ite2 (fun cc => ⟨fun _ => d0, fun _ => d1, fun _ => cc⟩) fun cc => ?_
      rw [if_neg (fun n => n d0), if_neg (fun n => n d1), if_pos cc] at q
      exact q
  · rintro σ H2 ⟨rfl, o1, rfl, e0, e1, e2⟩
    rw [if_neg (fun n => n (e0 (show 1 ≤ 3 by decide))), if_neg (fun n => n (e1 (show 2 ≤ 3 by decide))), if_neg (fun n => n (e2 (show 3 ≤ 3 by decide)))] at q
    exact q
theorem ok_rough (T : Tx K mg t1 t2) (F : At K mg "rough_plane" s_rough_plane ["one", "other", "third"] []) (d_minor_of : DefOk P w K mg base CX0 3 "minor_of" ["one", "other", "third", "place"] [] spMinor) : DefOk P w K mg base CX0 4 "rough_plane" ["one", "other", "third"] [] spRough := by
  refine F.ok sc_rough_plane (fun vs H Q E h => ?_) (fun f cdv A outer s H vs Q E hr h => ?_)
  · obtain ⟨r, e, t, p, o, u, rfl, _⟩ := h
    rfl
  obtain ⟨r, e, t, p, o, u, rfl, h1, h2, h3, q⟩ := h
  have S := sc_rough_plane
  refine ⟨_, (pss_one (ps_ret (pe_tup (pa_cons (pe_callD d_minor_of (hr.mono (by decide)) rfl pass0 (pa_cons (pv 0) (pa_cons (pv 1) (pa_cons (pv 2) (pa_cons pe_int pa_nil se_con) se_nam) se_nam) se_nam)) (pa_cons (pe_un un_neg (pe_callD d_minor_of (hr.mono (by decide)) rfl pass0 (pa_cons (pv 0) (pa_cons (pv 1) (pa_cons (pv 2) (pa_cons pe_int pa_nil se_con) se_nam) se_nam) se_nam))) (pa_cons (pe_callD d_minor_of (hr.mono (by decide)) rfl pass0 (pa_cons (pv 0) (pa_cons (pv 1) (pa_cons (pv 2) (pa_cons pe_int pa_nil se_con) se_nam) se_nam) se_nam)) (pa_cons (pe_callD d_minor_of (hr.mono (by decide)) rfl pass0 (pa_cons (pv 0) (pa_cons (pv 1) (pa_cons (pv 2) (pa_cons pe_int pa_nil se_con) se_nam) se_nam) se_nam)) pa_nil se_cal) se_cal) se_un) se_cal)))), ?_⟩
  walk_at "rf"
  refine ⟨r, e, t, 0, p, o, u, rfl, h1, h2, h3, by decide, by decide, fun H1 s1 => ?_⟩
  refine ⟨r, e, t, 1, p, o, u, rfl, h1.keep s1, h2.keep s1, h3.keep s1, by decide, by decide, fun H2 s2 => ?_⟩
  have s12 := s1.trans s2
  walk_at "rf"
  refine ⟨r, e, t, 2, p, o, u, rfl, h1.keep s12, h2.keep s12, h3.keep s12, by decide, by decide, fun H3 s3 => ?_⟩
  have s13 := s12.trans s3
  refine ⟨r, e, t, 3, p, o, u, rfl, h1.keep s13, h2.keep s13, h3.keep s13, by decide, by decide, fun H4 s4 => ?_⟩
  exact ⟨by decide, fun g hg => q g _ (s13.trans (s4.trans (Same.new hg _))) upd_same⟩
theorem det_bd {a b c x y z u v w : Int} (ha : Sm2 a) (hb : Sm2 b) (hc : Sm2 c) (hx : Sm2 x) (hy : Sm2 y) (hz : Sm2 z) (hu : Sm2 u) (hv : Sm2 v) (hw : Sm2 w) : Bd 603 (det3 a b c x y z u v w) := by
  have m : ∀ {i j k l e : Int}, Sm2 i → Sm2 j → Sm2 k → Sm2 l → Sm2 e → Bd 601 ((i * j - k * l) * e) := fun h1 h2 h3 h4 h5 => Bd.mul (n := 401) (m := 200) (Bd.sub (Bd.mul (n := 200) (m := 200) h1 h2) (Bd.mul (n := 200) (m := 200) h3 h4)) h5
  exact Bd.add (Bd.add (m hb hz hc hy hu) (m hc hx ha hz hv)) (Bd.mono (n := 601) (m ha hy hb hx hw))
theorem minor_sm {p o u : Pt} (hp : p.sm) (ho : o.sm) (hu : u.sm) : Small (minor 0 p o u) ∧ Small (minor 1 p o u) ∧ Small (minor 2 p o u) ∧ Small (minor 3 p o u) := by
  obtain ⟨a, b, c, d⟩ := hp
  obtain ⟨a', b', c', d'⟩ := ho
  obtain ⟨a2, b2, c2, d2⟩ := hu
  exact ⟨Bd.mono (n := 603) (det_bd b c d b' c' d' b2 c2 d2), Bd.mono (n := 603) (det_bd a c d a' c' d' a2 c2 d2), Bd.mono (n := 603) (det_bd a b d a' b' d' a2 b2 d2), Bd.mono (n := 603) (det_bd a b c a' b' c' a2 b2 c2)⟩
theorem ok_plane (T : Tx K mg t1 t2) (F : At K mg "made_plane" s_made_plane ["a", "b", "c", "d"] []) (d_in_lowest_terms : DefOk P w K mg base CX0 2 "in_lowest_terms" ["numbers"] [] spLow) : DefOk P w K mg base CX0 3 "made_plane" ["a", "b", "c", "d"] [] spPlane := by
  refine F.ok sc_made_plane (fun vs H Q E h => ?_) (fun f cdv A outer s H vs Q E hr h => ?_)
  · obtain ⟨a, b, c, d, rfl, _⟩ := h
    rfl
  obtain ⟨a, b, c, d, rfl, sa, sb, sc, sd, nz, q⟩ := h
  have S := sc_made_plane
  refine ⟨_, (pss_cons (ps_if (PW.pt (pw_and (pt_cmpR op_eq (pv 0) pe_int (nomark _)) (pw_and (pt_cmpR op_eq (pv 1) pe_int (nomark _)) (pw_and1 (pt_cmpR op_eq (pv 2) pe_int (nomark _))))))
    pss_never
    pss_nil)
    (pss_one (ps_ret (pe_callD d_in_lowest_terms (hr.mono (by decide)) rfl pass0 (pa_cons (pe_tup (pa_cons (pv 0) (pa_cons (pv 1) (pa_cons (pv 2) (pa_cons (pv 3) pa_nil se_nam) se_nam) se_nam) se_nam)) pa_nil se_tup))))), ?_⟩
  have fin : ∀ p, H p = none → spLow [.ref p] (upd H p (.tup [.int a, .int b, .int c, .int d])) Q (fun _ _ _ => False) := fun p hp =>
    ⟨p, [a, b, c, d], rfl, upd_same, by simp, mem4 sa sb sc sd, by have := gl4 (d := d) nz; omega, fun r H' h1 h2 => q r H' ((Same.new hp _).trans h1) h2⟩
  walk_at "rf"
  by_cases c1 : a = 0
  · rw [if_pos c1]
    by_cases c2 : b = 0
    · rw [if_pos c2]
      by_cases c3 : c = 0
      · exact absurd ⟨c1, c2, c3⟩ nz
      · rw [if_neg c3]
        exact ⟨by decide, fin⟩
    · rw [if_neg c2]
      exact ⟨by decide, fin⟩
  · rw [if_neg c1]
    exact ⟨by decide, fin⟩
theorem ok_through (T : Tx K mg t1 t2) (F : At K mg "plane_through" s_plane_through ["one", "other", "third"] []) (d_rough_plane : DefOk P w K mg base CX0 4 "rough_plane" ["one", "other", "third"] [] spRough) (d_made_plane : DefOk P w K mg base CX0 3 "made_plane" ["a", "b", "c", "d"] [] spPlane) (d_is_plain : DefOk P w K mg base CX0 1 "is_plain" ["plane"] [] spPlain) (d_turned_about : DefOk P w K mg base CX0 1 "turned_about" ["plane"] [] spTurned) : DefOk P w K mg base CX0 5 "plane_through" ["one", "other", "third"] [] spThrough := by
  refine F.ok sc_plane_through (fun vs H Q E h => ?_) (fun f cdv A outer s H vs Q E hr h => ?_)
  · obtain ⟨r, e, t, p, o, u, rfl, _⟩ := h
    rfl
  obtain ⟨r, e, t, p, o, u, rfl, h1, h2, h3, na, q⟩ := h
  have S := sc_plane_through
  refine ⟨_, (pss_cons (ps_set (i := 3) S.nd rfl (Or.inl rfl) (pe_callD d_rough_plane (hr.mono (by decide)) rfl pass0 (pa_cons (pv 0) (pa_cons (pv 1) (pa_cons (pv 2) pa_nil se_nam) se_nam) se_nam)))
    (pss_cons (ps_set (i := 4) S.nd rfl (Or.inl rfl) (pe_callD d_made_plane (hr.mono (by decide)) rfl pass0 (pa_cons (pe_ix ix_tup (pv 3) pe_int (fun _ _ => rfl)) (pa_cons (pe_ix ix_tup (pv 3) pe_int (fun _ _ => rfl)) (pa_cons (pe_ix ix_tup (pv 3) pe_int (fun _ _ => rfl)) (pa_cons (pe_ix ix_tup (pv 3) pe_int (fun _ _ => rfl)) pa_nil se_sub) se_sub) se_sub) se_sub)))
    (pss_cons (ps_if (pt_val (pe_callD d_is_plain (hr.mono (by decide)) rfl pass0 (pa_cons (pv 4) pa_nil se_nam)))
    (pss_one (ps_ret (pv 4)))
    pss_nil)
    (pss_one (ps_ret (pe_callD d_turned_about (hr.mono (by decide)) rfl pass0 (pa_cons (pv 4) pa_nil se_nam))))))), ?_⟩
  obtain ⟨m0, m1, m2, m3⟩ := minor_sm h1.2 h2.2 h3.2
  walk_at "rf"
  refine ⟨r, e, t, p, o, u, rfl, h1, h2, h3, fun g H1 s1 e1 => ?_⟩
  have kg : SqT K H1 g [.int (minor 0 p o u), .int (-minor 1 p o u), .int (minor 2 p o u), .int (minor 3 p o u)] := SqT.of e1
  walk_at "gf"
  refine ⟨_, _, _, _, rfl, m0, m1.neg, m2, m3, fun z => na ⟨z.1, by omega, z.2.2⟩, fun g2 H2 s2 e2 => ?_⟩
  have el : ∃ a b c d, low (rgh p o u) = [a, b, c, d] := ⟨_, _, _, _, rfl⟩
  have e2' : H2 g2 = some (.tup ((low (rgh p o u)).map V.int)) := e2
  obtain ⟨a, b, c, d, el⟩ := el
  unfold pln at q
  rw [el] at q e2'
  walk_at "rf"
  refine ⟨g2, a, b, c, d, rfl, e2', fun H3 s3 => ?_⟩
  have s13 := s1.trans (s2.trans s3)
  dsimp only at q
  cases eb : plb a b c with
  | true =>
    rw [eb, if_pos rfl] at q
    walk_at "rf"
    exact q g2 H3 s13 (s3 _ _ e2')
  | false =>
    rw [eb, if_neg (by decide)] at q
    walk_at "rf"
    refine ⟨g2, [a, b, c, d], rfl, s3 _ _ e2', by simp, fun g3 H4 s4 e4 => ?_⟩
    exact q g3 H4 (s13.trans s4) e4
theorem ok_ht (T : Tx K mg t1 t2) (F : At K mg "height_over" s_height_over ["plane", "spot"] []) : DefOk P w K mg base CX0 1 "height_over" ["plane", "spot"] [] spHt := by
  refine F.ok sc_height_over (fun vs H Q E h => ?_) (fun f cdv A outer s H vs Q E hr h => ?_)
  · obtain ⟨r, e, a, b, c, d, p, rfl, _⟩ := h
    rfl
  obtain ⟨r, e, a, b, c, d, p, rfl, h1, sa, sb, sc, sd, h2, q⟩ := h
  have S := sc_height_over
  refine ⟨_, (pss_one (ps_ret (pe_op op_sub (pe_op op_add (pe_op op_add (pe_op op_mulB (pe_ix ix_tup (pv 0) pe_int (fun _ _ => rfl)) (pe_ix ix_tup (pv 1) pe_int (fun _ _ => rfl))) (pe_op op_mulB (pe_ix ix_tup (pv 0) pe_int (fun _ _ => rfl)) (pe_ix ix_tup (pv 1) pe_int (fun _ _ => rfl)))) (pe_op op_mulB (pe_ix ix_tup (pv 0) pe_int (fun _ _ => rfl)) (pe_ix ix_tup (pv 1) pe_int (fun _ _ => rfl)))) (pe_op op_mulB (pe_ix ix_tup (pv 0) pe_int (fun _ _ => rfl)) (pe_ix ix_tup (pv 1) pe_int (fun _ _ => rfl)))))), ?_⟩
  have k1 : SqT K H r [.int a, .int b, .int c, .int d] := SqT.of h1
  have f1 := sa.bd.fit
  have f2 := sb.bd.fit
  have f3 := sc.bd.fit
  have f4 := sd.bd.fit
  have k_h2 := h2.sq (K := K)
  have g0 := h2.2.fx
  have g1 := h2.2.fy
  have g2 := h2.2.fz
  have g3 := h2.2.fw
  walk_at "rf"
  walk_at "gf"
  exact q
theorem ok_side (T : Tx K mg t1 t2) (F : At K mg "side_of" s_side_of ["plane", "spot"] []) (d_sign_of : DefOk P w K mg base CX0 1 "sign_of" ["number"] [] spSign) (d_height_over : DefOk P w K mg base CX0 1 "height_over" ["plane", "spot"] [] spHt) : DefOk P w K mg base CX0 2 "side_of" ["plane", "spot"] [] spSide := by
  refine F.ok sc_side_of (fun vs H Q E h => ?_) (fun f cdv A outer s H vs Q E hr h => ?_)
  · obtain ⟨r, e, a, b, c, d, p, rfl, _⟩ := h
    rfl
  obtain ⟨r, e, a, b, c, d, p, rfl, h1, sa, sb, sc, sd, h2, q⟩ := h
  have S := sc_side_of
  refine ⟨_, (pss_one (ps_ret (pe_callD d_sign_of (hr.mono (by decide)) rfl pass0 (pa_cons (pe_callD d_height_over (hr.mono (by decide)) rfl pass0 (pa_cons (pv 0) (pa_cons (pv 1) pa_nil se_nam) se_nam)) pa_nil se_cal)))), ?_⟩
  walk_at "rf"
  exact ⟨r, e, a, b, c, d, p, rfl, h1, sa, sb, sc, sd, h2, _, rfl, q⟩
theorem ok_first (T : Tx K mg t1 t2) (F : At K mg "stands_first" s_stands_first ["one", "other"] []) : DefOk P w K mg base CX0 1 "stands_first" ["one", "other"] [] spFirst := by
  refine F.ok sc_stands_first (fun vs H Q E h => ?_) (fun f cdv A outer s H vs Q E hr h => ?_)
  · obtain ⟨r, e, p, o, rfl, _⟩ := h
    rfl
  obtain ⟨r, e, p, o, rfl, h1, h2, q⟩ := h
  have S := sc_stands_first
  refine ⟨_, (pss_cons (ps_for PassesOwn.never rfl (pi_range1 rfl T.m_range (pa_cons pe_int pa_nil se_con)) (pg_name (i := 2) S.nd rfl (Or.inl rfl))
    (pss_cons (ps_set (i := 3) S.nd rfl (Or.inl rfl) (pe_op op_mulB (pe_ix ix_tup (pv 0) (pv 2) (fun _ _ => rfl)) (pe_ix ix_tup (pv 1) pe_int (fun _ _ => rfl))))
    (pss_cons (ps_set (i := 4) S.nd rfl (Or.inl rfl) (pe_op op_mulB (pe_ix ix_tup (pv 1) (pv 2) (fun _ _ => rfl)) (pe_ix ix_tup (pv 0) pe_int (fun _ _ => rfl))))
    (pss_one (ps_if (pt_cmpR op_ne (pv 3) (pv 4) (nomark _))
    (pss_one (ps_ret (pe_cmpR op_lt (pv 3) (pv 4) (nomark _))))
    pss_nil)))))
    (pss_one (ps_ret pe_bl))), ?_⟩
  have k_h1 := h1.sq (K := K)
  have k_h2 := h2.sq (K := K)
  have f0 := h1.2.fx
  have f1 := h1.2.fy
  have f2 := h1.2.fz
  have f3 := h1.2.fw
  have g0 := h2.2.fx
  have g1 := h2.2.fy
  have g2 := h2.2.fz
  have g3 := h2.2.fw
  unfold sfp at q
  walk_at "rd"
  refine ⟨3, rfl, by decide, by decide, for_range (lo := 0) (n := 3) (fun i σ H2 => H2 = H ∧ ∃ (o0 o1 o2 : Option V), σ = [some (.ref r), some (.ref e), o0, o1, o2] ∧ (1 ≤ i → p.x * o.w = o.x * p.w) ∧ (2 ≤ i → p.y * o.w = o.y * p.w) ∧ (3 ≤ i → p.z * o.w = o.z * p.w)) ⟨rfl, none, none, none, rfl, by simp, by simp, by simp⟩ ?_ ?_⟩
  · rintro i σ H2 hi ⟨rfl, o0, o1, o2, rfl, e0, e1, e2⟩
    match i, hi with
    | 0, _ =>
      walk_at "rd"
      walk_at "go"
      refine ite2 (fun c => ⟨fun _ => c, fun h => absurd h (by decide), fun h => absurd h (by decide)⟩) fun c => ?_
      rw [sf, if_pos c] at q
      exact q
    | 1, _ =>
      have d0 := e0 (by decide)
      walk_at "rd"
      walk_at "go"
      refine ite2 (fun c => ⟨fun _ => d0, fun _ => c, fun h => absurd h (by decide)⟩) fun c => ?_
      rw [sf, if_neg (fun n => n d0), if_pos c] at q
      exact q
    | 2, _ =>
      have d0 := e0 (by decide)
      have d1 := e1 (by decide)
      walk_at "rd"
      walk_at "go"
      refine ite2 (fun c => ⟨fun _ => d0, fun _ => d1, fun _ => c⟩) fun c => ?_
      rw [sf, if_neg (fun n => n d0), if_neg (fun n => n d1), if_pos c] at q
      exact q
  · rintro σ H2 ⟨rfl, o0, o1, o2, rfl, e0, e1, e2⟩
    rw [sf, if_neg (fun n => n (e0 (by decide))), if_neg (fun n => n (e1 (by decide))), if_neg (fun n => n (e2 (by decide)))] at q
    walk_at "rd"
    exact q
theorem ok_axis (T : Tx K mg t1 t2) (F : At K mg "flat_axis" s_flat_axis ["plane"] []) : DefOk P w K mg base CX0 1 "flat_axis" ["plane"] [] spAxis := by
  refine F.ok sc_flat_axis (fun vs H Q E h => ?_) (fun f cdv A outer s H vs Q E hr h => ?_)
  · obtain ⟨r, a, b, c, d, rfl, _⟩ := h
    rfl
  obtain ⟨r, a, b, c, d, rfl, h1, nz, q⟩ := h
  have S := sc_flat_axis
  refine ⟨_, (pss_cons (ps_for PassesOwn.never rfl (pi_range1 rfl T.m_range (pa_cons pe_int pa_nil se_con)) (pg_name (i := 1) S.nd rfl (Or.inl rfl))
    (pss_one (ps_if (pt_cmpR op_ne (pe_ix ix_tup (pv 0) (pv 1) (fun _ _ => rfl)) pe_int (nomark _))
    (pss_one (ps_ret (pv 1)))
    pss_nil)))
    (pss_one (ps_ret pe_non))), ?_⟩
  have k1 : SqT K H r [.int a, .int b, .int c, .int d] := SqT.of h1
  walk_at "rf"
  walk_at "gf"
  refine for_range (lo := 0) (n := 3) (fun i σ H2 => H2 = H ∧ ∃ o1 : Option V, σ = [some (.ref r), o1] ∧ (1 ≤ i → a = 0) ∧ (2 ≤ i → b = 0) ∧ (3 ≤ i → c = 0)) ⟨rfl, none, rfl, by simp, by simp, by simp⟩ ?_ ?_
  · rintro i σ H2 hi ⟨rfl, o1, rfl, e0, e1, e2⟩
    match i, hi with
    | 0, _ =>
      walk_at "rf"
      walk_at "gf"
      refine ite2 (fun cc => ⟨fun _ => cc, fun h => absurd h (by decide), fun h => absurd h (by decide)⟩) fun cc => ?_
      exact q _ (.inl ⟨rfl, cc⟩)
    | 1, _ =>
      have d0 := e0 (by decide)
      walk_at "rf"
      walk_at "gf"
      refine ite2 (fun cc => ⟨fun _ => d0, fun _ => cc, fun h => absurd h (by decide)⟩) fun cc => ?_
      exact q _ (.inr (.inl ⟨rfl, d0, cc⟩))
    | 2, _ =>
      have d0 := e0 (by decide)
      have d1 := e1 (by decide)
      walk_at "rf"
      walk_at "gf"
      refine ite2 (fun cc => ⟨fun _ => d0, fun _ => d1, fun _ => cc⟩) fun cc => ?_
      exact q _ (.inr (.inr ⟨rfl, d0, d1, cc⟩))
  · rintro σ H2 ⟨rfl, o1, rfl, e0, e1, e2⟩
    exact absurd ⟨e0 (by decide), e1 (by decide), e2 (by decide)⟩ nz
theorem ok_edge (T : Tx K mg t1 t2) (F : At K mg "side_of_edge" s_side_of_edge ["edge", "spot", "axis"] []) (d_sign_of : DefOk P w K mg base CX0 1 "sign_of" ["number"] [] spSign) (d_minor_of : DefOk P w K mg base CX0 3 "minor_of" ["one", "other", "third", "place"] [] spMinor) : DefOk P w K mg base CX0 4 "side_of_edge" ["edge", "spot", "axis"] [] spEdge := by
  refine F.ok sc_side_of_edge (fun vs H Q E h => ?_) (fun f cdv A outer s H vs Q E hr h => ?_)
  · obtain ⟨g, r, e, t, k, p, o, u, rfl, _⟩ := h
    rfl
  obtain ⟨g, r, e, t, k, p, o, u, rfl, hg, h1, h2, h3, k0, k3, q⟩ := h
  have S := sc_side_of_edge
  refine ⟨_, (pss_one (ps_ret (pe_callD d_sign_of (hr.mono (by decide)) rfl pass0 (pa_cons (pe_callD d_minor_of (hr.mono (by decide)) rfl pass0 (pa_cons (pe_ix ix_tup (pv 0) pe_int (fun _ _ => rfl)) (pa_cons (pe_ix ix_tup (pv 0) pe_int (fun _ _ => rfl)) (pa_cons (pv 1) (pa_cons (pv 2) pa_nil se_nam) se_nam) se_sub) se_sub)) pa_nil se_cal)))), ?_⟩
  have kg : SqT K H g [.ref r, .ref e] := SqT.of hg
  walk_at "rf"
  walk_at "gf"
  refine ⟨r, e, t, k, p, o, u, rfl, h1, h2, h3, k0, k3, fun H1 s1 => ?_⟩
  exact ⟨_, rfl, q H1 s1⟩
def fM1 (H : Hp) (l : Addr) (ps : List Pt) : L2.St → Hp → Prop := fun σ H' => ∃ o2 : Option V, σ = [some (.ref l), some (.int (fF ps : Nat)), o2, none] ∧ H' = H
def fM2 (H : Hp) (l : Addr) (ps : List Pt) (rs : List Addr) : L2.St → Hp → Prop := fun σ H' => ∃ (g : Addr) (o1 o2 : Option V), σ = [some (.ref l), o1, o2, some (.ref g)] ∧ H' g = some (.lst ((rot (fF ps) rs).map V.ref)) ∧ Same H H'
def fM3 (H : Hp) (ps : List Pt) (rs : List Addr) : L2.St → Hp → Prop := fun σ H' => ∃ (g : Addr) (o0 o1 o2 : Option V), σ = [o0, o1, o2, some (.ref g)] ∧ H' g = some (.lst ((frm ps rs).map V.ref)) ∧ Same H H'
theorem rot_len {α : Type} {f : Nat} {l : List α} (h : f ≤ l.length) : (rot f l).length = l.length := by
  unfold rot
  rw [List.length_append, List.length_drop, List.length_take]
  omega
theorem ok_formed (T : Tx K mg t1 t2) (F : At K mg "formed" s_formed ["corners"] []) (d_stands_first : DefOk P w K mg base CX0 1 "stands_first" ["one", "other"] [] spFirst) : DefOk P w K mg base CX0 2 "formed" ["corners"] [] spFormed := by
  refine F.ok sc_formed (fun vs H Q E h => ?_) (fun f cdv A outer s H vs Q E hr h => ?_)
  · obtain ⟨l, rs, ps, rfl, _⟩ := h
    rfl
  obtain ⟨l, rs, ps, rfl, hc, n3, n8, q⟩ := h
  have S := sc_formed
  refine ⟨_, (pss_cons (ps_set (i := 1) S.nd rfl (Or.inl rfl) pe_int)
    (pss_cut (fM1 H l ps) (ps_for PassesOwn.never rfl (pi_range2 rfl T.m_range (pa_cons pe_int (pa_cons (pe_callB call_len_seq rfl T.m_len PySem.boot_len (pa_cons (pv 0) pa_nil se_nam)) pa_nil se_cal) se_con)) (pg_name (i := 2) S.nd rfl (Or.inl rfl))
    (pss_one (ps_if (pt_val (pe_callD d_stands_first (hr.mono (by decide)) rfl pass0 (pa_cons (pe_ix ix_list (pv 0) (pv 2) (fun _ _ => rfl)) (pa_cons (pe_ix ix_list (pv 0) (pv 1) (fun _ _ => rfl)) pa_nil se_sub) se_sub)))
    (pss_one (ps_set (i := 1) S.nd rfl (Or.inl rfl) (pv 2)))
    pss_nil)))
    (pss_cut (fM2 H l ps rs) (ps_set (i := 3) S.nd rfl (Or.inl rfl) (pe_op op_cat (pe_callTy call_list_of rfl T.m_list boot_list (pa_cons (pe_slice sl_list (pv 0) (po_some (pv 1)) po_none) pa_nil se_sub)) (pe_callTy call_list_of rfl T.m_list boot_list (pa_cons (pe_slice sl_list (pv 0) po_none (po_some (pv 1))) pa_nil se_sub))))
    (pss_cut (fM3 H ps rs) (ps_if (pt_val (pe_callD d_stands_first (hr.mono (by decide)) rfl pass0 (pa_cons (pe_ix ix_list (pv 3) (pe_un un_neg pe_int) (fun _ _ => rfl)) (pa_cons (pe_ix ix_list (pv 3) pe_int (fun _ _ => rfl)) pa_nil se_sub) se_sub)))
    (pss_one (ps_set (i := 3) S.nd rfl (Or.inl rfl) (pe_op op_cat (pe_slice sl_list (pv 3) po_none (po_some pe_int)) (pe_listRev rfl rfl T.m_list rfl T.m_reversed (pe_slice sl_list (pv 3) (po_some pe_int) po_none)))))
    pss_nil)
    (pss_one (ps_ret (pe_callTy call_tupleL rfl T.m_tuple boot_tuple (pa_cons (pv 3) pa_nil se_nam)))))))), ?_⟩
  have ln := hc.2.len
  have lm : (rs.map V.ref).length = ps.length := by rw [List.length_map, ln]
  have kl : SqL K H l (rs.map V.ref) := SqL.of hc.1
  walk_at "rf"
  refine ⟨⟨_, .inl kl, by decide, by decide, by omega, by omega, ?_⟩, ?_⟩
  · refine for_range (lo := 1) (n := _) (fun i σ H2 => H2 = H ∧ ∃ o2 : Option V, σ = [some (.ref l), some (.int (argF ps i : Nat)), o2, none]) ⟨rfl, none, rfl⟩ ?_ ?_
    · rintro i σ H2 hi ⟨rfl, o2, rfl⟩
      have hi2 : i + 1 < ps.length := by omega
      have al := argF_le ps i
      obtain ⟨g1, g2⟩ := hc.2.get hi2
      obtain ⟨g3, g4⟩ := hc.2.get (i := argF ps i) (by omega)
      have e1 : atI (rs.map V.ref) (1 + (i : Int)) = some (.ref (ad rs (i + 1))) := by
        have z : (1 + (i : Int)) = ((i + 1 : Nat) : Int) := by omega
        rw [z]
        exact atI_nat g1
      walk_at "rf"
      refine ixL kl e1 ?_
      refine ixL kl (atI_nat g3) ?_
      refine ⟨_, _, _, _, rfl, g2, g4, ?_⟩
      have ea : argF ps (i + 1) = if sfp (pt ps (i + 1)) (pt ps (argF ps i)) = true then i + 1 else argF ps i := rfl
      walk_at "rf"
      cases es : sfp (pt ps (i + 1)) (pt ps (argF ps i)) with
      | true =>
        rw [es, if_pos rfl] at ea
        rw [ea, if_pos rfl]
        exact ⟨by omega, _, rfl⟩
      | false =>
        rw [es, if_neg (by decide)] at ea
        rw [ea, if_neg (by decide)]
        exact ⟨rfl, _, rfl⟩
    · rintro σ H2 ⟨rfl, o2, rfl⟩
      have e : (((List.map V.ref rs).length : Int) - 1).toNat = ps.length - 1 := by omega
      rw [e]
      exact ⟨_, rfl, rfl⟩
  rintro σ1 H1 ⟨o2, rfl, rfl⟩
  have fl : fF ps < ps.length := by have := argF_le ps (ps.length - 1); unfold fF; omega
  walk_at "rf"
  refine ⟨⟨l, _, rfl, kl, fun a1 h1 => ?_⟩, ?_⟩
  · rw [cut_drop]
    have s1 := Same.new h1 (.lst ((rs.map V.ref).drop (fF ps)))
    have e1 : upd H1 a1 (.lst ((rs.map V.ref).drop (fF ps))) a1 = some (.lst ((rs.map V.ref).drop (fF ps))) := upd_same
    generalize upd H1 a1 (.lst ((rs.map V.ref).drop (fF ps))) = J1 at s1 e1 ⊢
    refine ⟨a1, rfl, _, .inl (SqL.of e1), fun a2 h2 => ?_⟩
    have s2 := Same.new h2 (.lst ((rs.map V.ref).drop (fF ps)))
    have e2 : upd J1 a2 (.lst ((rs.map V.ref).drop (fF ps))) a2 = some (.lst ((rs.map V.ref).drop (fF ps))) := upd_same
    generalize upd J1 a2 (.lst ((rs.map V.ref).drop (fF ps))) = J2 at s2 e2 ⊢
    refine ⟨l, _, rfl, (s1.trans s2).seq kl, fun a3 h3 => ?_⟩
    rw [cut_take]
    have s3 := Same.new h3 (.lst ((rs.map V.ref).take (fF ps)))
    have e3 : upd J2 a3 (.lst ((rs.map V.ref).take (fF ps))) a3 = some (.lst ((rs.map V.ref).take (fF ps))) := upd_same
    generalize upd J2 a3 (.lst ((rs.map V.ref).take (fF ps))) = J3 at s3 e3 ⊢
    refine ⟨a3, rfl, _, .inl (SqL.of e3), fun a4 h4 => ?_⟩
    have s4 := Same.new h4 (.lst ((rs.map V.ref).take (fF ps)))
    have e4 : upd J3 a4 (.lst ((rs.map V.ref).take (fF ps))) a4 = some (.lst ((rs.map V.ref).take (fF ps))) := upd_same
    generalize upd J3 a4 (.lst ((rs.map V.ref).take (fF ps))) = J4 at s4 e4 ⊢
    refine ⟨a2, a4, _, _, rfl, rfl, s4 _ _ (s3 _ _ e2), e4, ?_, fun a5 h5 => ⟨a5, _, _, rfl, ?_, s1.trans (s2.trans (s3.trans (s4.trans (Same.new h5 _))))⟩⟩
    · rw [List.length_drop, List.length_take]
      exact Nat.le_trans (show _ ≤ 1000 by omega) (by decide)
    · unfold rot
      rw [List.map_append, List.map_drop, List.map_take]
      exact upd_same
  rintro σ2 H2 ⟨g, o1, o2, rfl, hg, s2⟩
  have hr2 := (hc.2.keep s2.t).rot (fF ps)
  have rl : (rot (fF ps) ps).length = ps.length := rot_len (by omega)
  have rl2 : ((rot (fF ps) rs).map V.ref).length = ps.length := by rw [List.length_map, rot_len (by omega), ln]
  have kg : SqL K H2 g ((rot (fF ps) rs).map V.ref) := SqL.of hg
  obtain ⟨b1, b2⟩ := hr2.get (i := ps.length - 1) (by omega)
  obtain ⟨b3, b4⟩ := hr2.get (i := 1) (by omega)
  have ef : ∀ {α : Type} (x : List α), frm ps x = turn (fB ps) (rot (fF ps) x) := fun _ => rfl
  have eb : fB ps = sfp (pt (rot (fF ps) ps) (ps.length - 1)) (pt (rot (fF ps) ps) 1) := rfl
  walk_at "rf"
  refine ⟨ixL kg (atI_neg1 (n := ps.length - 1) (by omega) b1) (ixL kg (atI_nat (j := 1) b3) ?_), ?_⟩
  · refine ⟨_, _, _, _, rfl, b2, b4, ?_⟩
    rw [← eb]
    have ef := ef rs
    cases es : fB ps with
    | false =>
      rw [es] at ef
      walk_at "rf"
      exact ⟨g, _, _, _, rfl, by rw [ef]; exact hg, s2⟩
    | true =>
      rw [es] at ef
      have ef2 : frm ps rs = (rot (fF ps) rs).take 1 ++ ((rot (fF ps) rs).drop 1).reverse := ef
      walk_at "rf"
      refine ⟨g, _, rfl, kg, fun a1 h1 => ?_⟩
      have c1 : cutV ((rot (fF ps) rs).map V.ref) none (some 1) = ((rot (fF ps) rs).map V.ref).take 1 := cut_take (f := 1)
      rw [c1]
      have s3 := Same.new h1 (.lst (((rot (fF ps) rs).map V.ref).take 1))
      have e1 : upd H2 a1 (.lst (((rot (fF ps) rs).map V.ref).take 1)) a1 = some (.lst (((rot (fF ps) rs).map V.ref).take 1)) := upd_same
      generalize upd H2 a1 (.lst (((rot (fF ps) rs).map V.ref).take 1)) = J1 at s3 e1 ⊢
      refine ⟨g, _, rfl, s3.seq kg, fun a2 h2 => ?_⟩
      have c2 : cutV ((rot (fF ps) rs).map V.ref) (some 1) none = ((rot (fF ps) rs).map V.ref).drop 1 := cut_drop (f := 1)
      rw [c2]
      have s4 := Same.new h2 (.lst (((rot (fF ps) rs).map V.ref).drop 1))
      have e2 : upd J1 a2 (.lst (((rot (fF ps) rs).map V.ref).drop 1)) a2 = some (.lst (((rot (fF ps) rs).map V.ref).drop 1)) := upd_same
      generalize upd J1 a2 (.lst (((rot (fF ps) rs).map V.ref).drop 1)) = J2 at s4 e2 ⊢
      refine ⟨a2, rfl, _, SqL.of e2, fun a3 h3 => ?_⟩
      have s5 := Same.new h3 (.lst (((rot (fF ps) rs).map V.ref).drop 1).reverse)
      have e3 : upd J2 a3 (.lst (((rot (fF ps) rs).map V.ref).drop 1).reverse) a3 = some (.lst (((rot (fF ps) rs).map V.ref).drop 1).reverse) := upd_same
      generalize upd J2 a3 (.lst (((rot (fF ps) rs).map V.ref).drop 1).reverse) = J3 at s5 e3 ⊢
      refine ⟨a1, a3, _, _, rfl, rfl, s5 _ _ (s4 _ _ e1), e3, ?_, fun a4 h4 => ⟨a4, _, _, _, rfl, ?_, s2.trans (s3.trans (s4.trans (s5.trans (Same.new h4 _))))⟩⟩
      · rw [List.length_reverse, List.length_drop, List.length_take]
        exact Nat.le_trans (show _ ≤ 1000 by omega) (by decide)
      · rw [ef2, List.map_append, List.map_take, List.map_reverse, List.map_drop]
        exact upd_same
  rintro σ3 H3 ⟨g, o0, o1, o2, rfl, hg, s3⟩
  walk_at "rf"
  exact ⟨_, SqL.of hg, fun t ht => q t _ (s3.trans (Same.new ht _)) upd_same⟩
theorem atI_pred {rs : List Addr} {ps : List Pt} {H : Hp} (h : Sps H rs ps) {i : Nat} (hi : i < ps.length) : atI (rs.map V.ref) ((i : Int) - 1) = some (.ref (ad rs ((i + (ps.length - 1)) % ps.length))) := by
  have lm : (rs.map V.ref).length = ps.length := by rw [List.length_map, h.len]
  cases i with
  | zero =>
    have e : (0 + (ps.length - 1)) % ps.length = ps.length - 1 := by rw [Nat.zero_add]; exact Nat.mod_eq_of_lt (by omega)
    rw [e]
    have z : ((0 : Nat) : Int) - 1 = -1 := rfl
    rw [z]
    exact atI_neg1 (n := ps.length - 1) (by omega) (h.get (i := ps.length - 1) (by omega)).1
  | succ i =>
    have e : (i + 1 + (ps.length - 1)) % ps.length = i := by
      have z : i + 1 + (ps.length - 1) = i + ps.length := by omega
      rw [z, Nat.add_mod_right]
      exact Nat.mod_eq_of_lt (by omega)
    rw [e]
    have z : ((i + 1 : Nat) : Int) - 1 = (i : Int) := by omega
    rw [z]
    exact atI_nat (h.get (i := i) (by omega)).1
theorem plb_neg {a b c : Int} (h : ¬ (a = 0 ∧ b = 0 ∧ c = 0)) (hp : plb a b c = false) : plb (-a) (-b) (-c) = true := by
  by_cases ha : a = 0
  · by_cases hb : b = 0
    · have hc : c ≠ 0 := fun z => h ⟨ha, hb, z⟩
      simp [plb, ha, hb, hc] at hp ⊢
      omega
    · simp [plb, ha, hb] at hp ⊢
      omega
  · simp [plb, ha] at hp ⊢
    omega
theorem gl_neg (ns : List Int) : gl (ns.map fun n => -n) = gl ns := by
  have d1 : gl (ns.map fun n => -n) ∣ gl ns := dvd_gl fun n hn => Int.dvd_neg.mp (gl_dvd (List.mem_map.mpr ⟨n, hn, rfl⟩))
  have d2 : gl ns ∣ gl (ns.map fun n => -n) := dvd_gl fun n hn => by
    obtain ⟨m, hm, rfl⟩ := List.mem_map.mp hn
    exact Int.dvd_neg.mpr (gl_dvd hm)
  exact Int.dvd_antisymm (gl_nonneg _) (gl_nonneg _) d1 d2
theorem pln_facts {a b c d : Int} (h : ¬ (a = 0 ∧ b = 0 ∧ c = 0)) (sa : Small a) (sb : Small b) (sc : Small c) (sd : Small d) : ∃ x y z w : Int, pln [a, b, c, d] = [x, y, z, w] ∧ Small x ∧ Small y ∧ Small z ∧ Small w ∧ gl [x, y, z, w] = 1 ∧ plb x y z = true ∧ ∀ p : Pt, hgt a b c d p = 0 → hgt x y z w p = 0 := by
  have gp := gl4 (d := d) h
  have g1 : gl (low [a, b, c, d]) = 1 := gl_div (ns := [a, b, c, d]) (by omega)
  have nz : ¬ (a / gl [a, b, c, d] = 0 ∧ b / gl [a, b, c, d] = 0 ∧ c / gl [a, b, c, d] = 0) := fun z => by
    have g : ∀ {x : Int}, x ∈ [a, b, c, d] → x / gl [a, b, c, d] = 0 → x = 0 := fun hx z => Classical.byContradiction fun q => div_ne_zero (gl_dvd hx) q z
    exact h ⟨g (by simp) z.1, g (by simp) z.2.1, g (by simp) z.2.2⟩
  have el : low [a, b, c, d] = [a / gl [a, b, c, d], b / gl [a, b, c, d], c / gl [a, b, c, d], d / gl [a, b, c, d]] := rfl
  have ea := Int.ediv_mul_cancel (gl_dvd (ns := [a, b, c, d]) (n := a) (by simp))
  have eb := Int.ediv_mul_cancel (gl_dvd (ns := [a, b, c, d]) (n := b) (by simp))
  have ec := Int.ediv_mul_cancel (gl_dvd (ns := [a, b, c, d]) (n := c) (by simp))
  have ed := Int.ediv_mul_cancel (gl_dvd (ns := [a, b, c, d]) (n := d) (by simp))
  have s1 := sa.div (g := gl [a, b, c, d])
  have s2 := sb.div (g := gl [a, b, c, d])
  have s3 := sc.div (g := gl [a, b, c, d])
  have s4 := sd.div (g := gl [a, b, c, d])
  unfold pln
  rw [el] at g1 ⊢
  generalize gl [a, b, c, d] = g at gp g1 nz ea eb ec ed s1 s2 s3 s4 ⊢
  generalize a / g = x at g1 nz ea s1 ⊢
  generalize b / g = y at g1 nz eb s2 ⊢
  generalize c / g = z at g1 nz ec s3 ⊢
  generalize d / g = w at g1 ed s4 ⊢
  have hz : ∀ p : Pt, hgt a b c d p = 0 → hgt x y z w p = 0 := fun p hp => by
    have e : hgt x y z w p * g = 0 := by
      rw [← hp, ← ea, ← eb, ← ec, ← ed]
      unfold hgt
      grind
    rcases Int.mul_eq_zero.mp e with q | q
    · exact q
    · omega
  show ∃ x' y' z' w' : Int, (if plb x y z = true then [x, y, z, w] else [-x, -y, -z, -w]) = [x', y', z', w'] ∧ _
  cases eb : plb x y z with
  | true => exact ⟨x, y, z, w, if_pos rfl, s1, s2, s3, s4, g1, eb, hz⟩
  | false =>
    refine ⟨-x, -y, -z, -w, if_neg (by decide), s1.neg, s2.neg, s3.neg, s4.neg, ?_, plb_neg nz eb, fun p hp => ?_⟩
    · rw [← g1]
      exact gl_neg [x, y, z, w]
    · have e := hz p hp
      have e2 : hgt (-x) (-y) (-z) (-w) p = -hgt x y z w p := by
        unfold hgt
        grind
      rw [e2, e]
      rfl
theorem pln_nz {a b c d x y z w : Int} (h : pln [a, b, c, d] = [x, y, z, w]) : (x ≠ 0 → a ≠ 0) ∧ (y ≠ 0 → b ≠ 0) ∧ (z ≠ 0 → c ≠ 0) := by
  have el : low [a, b, c, d] = [a / gl [a, b, c, d], b / gl [a, b, c, d], c / gl [a, b, c, d], d / gl [a, b, c, d]] := rfl
  unfold pln at h
  rw [el] at h
  generalize gl [a, b, c, d] = g at h
  have h' : (if plb (a / g) (b / g) (c / g) = true then [a / g, b / g, c / g, d / g] else [-(a / g), -(b / g), -(c / g), -(d / g)]) = [x, y, z, w] := h
  have z0 : ∀ {i : Int}, i = 0 → i / g = 0 := fun e => by rw [e]; exact Int.zero_ediv g
  split at h'
  · simp only [List.cons.injEq, and_true] at h'
    obtain ⟨e1, e2, e3, _⟩ := h'
    exact ⟨fun q e => q (by rw [← e1]; exact z0 e), fun q e => q (by rw [← e2]; exact z0 e), fun q e => q (by rw [← e3]; exact z0 e)⟩
  · simp only [List.cons.injEq, and_true] at h'
    obtain ⟨e1, e2, e3, _⟩ := h'
    exact ⟨fun q e => q (by rw [← e1, z0 e]; rfl), fun q e => q (by rw [← e2, z0 e]; rfl), fun q e => q (by rw [← e3, z0 e]; rfl)⟩
theorem plb_nz {x y z : Int} (h : plb x y z = true) : ¬ (x = 0 ∧ y = 0 ∧ z = 0) := fun e => by
  simp [plb, e.1, e.2.1, e.2.2] at h
theorem sgn0 : sgn 0 = 0 := rfl
theorem inl_na {p o u : Pt} (h : ¬ noArrow p o u) : inl p o u = false := decide_eq_false h
def spNext : Sp := fun vs H Q _ => ∃ (L : Addr) (b n : Int), vs = [.ref L, .int b] ∧ H L = some (.lst [.int n]) ∧ 0 < b ∧ Fit b ∧ Q (.int (n % b)) (upd H L (.lst [.int (n / b)]))
def spLeft : Sp := fun vs H Q _ => ∃ c : Int, vs = [.int c] ∧ ∀ (L : Addr) (H' : Hp) (m : Int), H L = none → Same H H' → H' L = some (.lst [.int m]) → Q (.ref L) H'
def spDivL : Sp := fun vs H Q _ => ∃ (l : Addr) (ns : List Int), vs = [.ref l] ∧ H l = some (.lst (ns.map V.int)) ∧ Q (.int (gl ns)) H
def spLowL : Sp := fun vs H Q _ => ∃ (l : Addr) (ns : List Int), vs = [.ref l] ∧ H l = some (.lst (ns.map V.int)) ∧ ns.length ≤ 10 ∧ 0 < gl ns ∧ Fit (gl ns) ∧ ∀ (t : Addr) (H' : Hp), Same H H' → H' t = some (.tup ((ns.map (· / gl ns)).map V.int)) → Q (.ref t) H'
theorem ok_next (T : Tx K mg t1 t2) (F : At K mg "_law_next" s__law_next ["left", "base"] []) : DefOk P w K mg base CX0 1 "_law_next" ["left", "base"] [] spNext := by
  refine F.ok sc__law_next (fun vs H Q E h => ?_) (fun f cdv A outer s H vs Q E hr h => ?_)
  · obtain ⟨L, b, n, rfl, _⟩ := h
    rfl
  obtain ⟨L, b, n, rfl, hL, b0, fb, q⟩ := h
  have S := sc__law_next
  refine ⟨_, (pss_cons (ps_set (i := 2) S.nd rfl (Or.inl rfl) (pe_op op_mod (pe_ix ix_list (pv 0) pe_int (fun _ _ => rfl)) (pv 1)))
    (pss_cons (ps_asg (pe_op op_fdivB (pe_ix ix_list (pv 0) pe_int (fun _ _ => rfl)) (pv 1)) (pg_sub (pv 0) pe_int set_list))
    (pss_one (ps_ret (pv 2))))), ?_⟩
  have k1 : SqL K H L [.int n] := SqL.of hL
  walk_at "rf"
  walk_at "gf"
  unfold gSub
  walk_at "rf"
  exact ⟨L, _, 0, 0, rfl, rfl, hL, rfl, q⟩
theorem ok_left (T : Tx K mg t1 t2) (F : At K mg "_law_left" s__law_left ["cell"] []) : DefOk P w K mg base CX0 1 "_law_left" ["cell"] [] spLeft := by
  refine F.ok sc__law_left (fun vs H Q E h => ?_) (fun f cdv A outer s H vs Q E hr h => ?_)
  · obtain ⟨c, rfl, _⟩ := h
    rfl
  obtain ⟨c, rfl, q⟩ := h
  have S := sc__law_left
  refine ⟨_, (pss_cons (ps_if (PW.pt (pw_or (pt_cmpR op_ge (pv 0) (pe_op op_pow pe_int pe_int) (nomark _)) (pw_or1 (pt_cmpR op_le (pv 0) (pe_un un_neg (pe_op op_pow pe_int pe_int)) (nomark _)))))
    (pss_one (ps_ret (pe_lst (pa_cons (pv 0) pa_nil se_nam))))
    pss_nil)
    (pss_cons (ps_set (i := 1) S.nd rfl (Or.inl rfl) (pe_op op_mod (pe_op op_add (pe_op op_mulB (pe_op op_mod (pv 0) pe_int) pe_int) pe_int) pe_int))
    (pss_cons (ps_set (i := 2) S.nd rfl (Or.inl rfl) pe_int)
    (pss_cons (ps_for PassesOwn.never rfl (pi_range1 rfl T.m_range (pa_cons pe_int pa_nil se_con)) (pg_name (i := 3) S.nd rfl (Or.inl rfl))
    (pss_cons (ps_set (i := 1) S.nd rfl (Or.inl rfl) (pe_op op_mod (pe_op op_mulB (pe_op op_mod (pe_op op_add (pe_op op_add (pe_op op_mulB (pv 1) (pv 1)) (pe_op op_mulB pe_int (pv 3))) pe_int) pe_int) pe_int) pe_int))
    (pss_one (ps_set (i := 2) S.nd rfl (Or.inl rfl) (pe_op op_add (pe_op op_mulB (pv 2) pe_int) (pv 1))))))
    (pss_one (ps_ret (pe_lst (pa_cons (pe_op op_fdivB (pv 2) pe_int) pa_nil se_bin)))))))), ?_⟩
  have e18 : (10 : Int) ^ Int.toNat 18 = 1000000000000000000 := by decide
  walk_at "rf"
  have fin : 1 ≤ sizeLine ∧ ∀ p : Addr, H p = none → Q (.ref p) (upd H p (.lst [.int c])) := ⟨by decide, fun p hp => q p _ c hp (Same.new hp _) upd_same⟩
  have m0 := Int.emod_nonneg c (show (2305843009213693951 : Int) ≠ 0 by decide)
  have m1 := Int.emod_lt_of_pos c (show (0 : Int) < 2305843009213693951 by decide)
  refine ⟨⟨by decide, by decide, by decide⟩, ite2 (fun _ => fin) fun _ => ⟨⟨by decide, by decide, by decide⟩, ite2 (fun _ => fin) fun _ => ?_⟩⟩
  refine ⟨by decide, .o (by omega) (by omega), .o (by decide) (by decide), by decide, by decide, by decide, ?_⟩
  refine for_range (lo := 0) (n := 9) (fun i σ H2 => H2 = H ∧ i ≤ 9 ∧ ∃ (near far : Int) (o3 : Option V), σ = [some (.int c), some (.int near), some (.int far), o3] ∧ 0 ≤ near ∧ near < 2305843009213693951 ∧ Bd (64 * i + 1) far) ⟨rfl, by decide, _, 0, none, rfl, Int.emod_nonneg _ (by decide), Int.emod_lt_of_pos _ (by decide), by unfold Bd; decide⟩ ?_ ?_
  · rintro i σ H2 hi ⟨rfl, hi9, near, far, o3, rfl, n0, n1, bf⟩
    have fn : Fit near := .o (by omega) (by omega)
    have ff : Fit far := bf.fit (by omega)
    have r0 := Int.emod_nonneg (near * near + 977 * (0 + (i : Int)) + 11) (show (2305843009213693951 : Int) ≠ 0 by decide)
    have r1 := Int.emod_lt_of_pos (near * near + 977 * (0 + (i : Int)) + 11) (show (0 : Int) < 2305843009213693951 by decide)
    have fr : Fit ((near * near + 977 * (0 + (i : Int)) + 11) % 2305843009213693951) := .o (by omega) (by omega)
    have t0 := Int.emod_nonneg ((near * near + 977 * (0 + (i : Int)) + 11) % 2305843009213693951 * 69621) (show (2305843009213693951 : Int) ≠ 0 by decide)
    have t1 := Int.emod_lt_of_pos ((near * near + 977 * (0 + (i : Int)) + 11) % 2305843009213693951 * 69621) (show (0 : Int) < 2305843009213693951 by decide)
    walk_at "rf"
    walk_at "gf"
    generalize (near * near + 977 * (0 + (i : Int)) + 11) % 2305843009213693951 * 69621 % 2305843009213693951 = nn at t0 t1
    have b62 : Bd 62 2305843009213693952 := by unfold Bd; decide
    have bn : Bd 62 nn := by
      unfold Bd
      have e : (2 ^ 62 : Nat) = 4611686018427387904 := by decide
      rw [e]
      omega
    have bb : Bd (64 * (i + 1) + 1) (far * 2305843009213693952 + nn) := Bd.mono (n := 64 * i + 64) (Bd.add (n := 64 * i + 63) (Bd.mono (n := 64 * i + 1 + 62) (Bd.mul bf b62) (by omega)) (Bd.mono bn (by omega))) (by omega)
    exact bb
  · rintro σ H2 ⟨rfl, _, near, far, o3, rfl, n0, n1, bf⟩
    walk_at "rf"
    refine ⟨by decide, .o (by decide) (by decide), by decide, fun p hp => q p _ _ hp (Same.new hp _) upd_same⟩
theorem ok_divl (T : Tx K mg t1 t2) (F : At K mg "_law_divisor" s__law_divisor ["numbers"] []) : DefOk P w K mg base CX0 1 "_law_divisor" ["numbers"] [] spDivL := by
  refine F.ok sc__law_divisor (fun vs H Q E h => ?_) (fun f cdv A outer s H vs Q E hr h => ?_)
  · obtain ⟨l, ns, rfl, _⟩ := h
    rfl
  obtain ⟨l, ns, rfl, hl, q⟩ := h
  have S := sc__law_divisor
  refine ⟨_, (pss_cons (ps_set (i := 1) S.nd rfl (Or.inl rfl) pe_int)
    (pss_cons (ps_for PassesOwn.never rfl (pi_list (pv 0)) (pg_name (i := 2) S.nd rfl (Or.inl rfl))
    (pss_cons (ps_set (i := 3) S.nd rfl (Or.inl rfl) (pe_callB call_abs rfl T.m_abs boot_abs (pa_cons (pv 2) pa_nil se_nam)))
    (pss_one (ps_while PassesOwn.never (pt_cmpR op_gt (pv 3) pe_int (nomark _))
    (pss_one (ps_par (i := 1) (j := 3) rfl S.nd rfl rfl (by decide) rfl rfl (pa_cons (pv 3) (pa_cons (pe_op op_mod (pv 1) (pv 3)) pa_nil se_bin) se_nam) rfl))))))
    (pss_one (ps_ret (pv 1))))), ?_⟩
  have k1 : SqL K H l (ns.map V.int) := SqL.of hl
  walk_at "rf"
  refine ⟨⟨_, k1⟩, for_list (K := K) (a := l) (xs := ns.map V.int) (fun i σ H2 => H2 = H ∧ ∃ o2 o3 : Option V, σ = [some (.ref l), some (.int (gl (ns.take i))), o2, o3]) ⟨rfl, none, none, rfl⟩ (fun i σ H3 _ ⟨h, _⟩ => by rw [h]; exact k1) ?_ ?_⟩
  · rintro i v σ H2 hi ⟨rfl, o2, o3, rfl⟩
    obtain ⟨m, rfl, hm⟩ := int_of hi
    walk_at "rf"
    have gn := gl_nonneg (ns.take i)
    refine ⟨fun n σ H3 => H3 = H2 ∧ ∃ (x y : Int), σ = [some (.ref l), some (.int x), some (.int m), some (.int y)] ∧ 0 ≤ x ∧ 0 ≤ y ∧ Int.gcd x y = Int.gcd (gl (ns.take i)) m ∧ n = y.toNat, ⟨_, rfl, _, _, rfl, gn, by split <;> omega, by split <;> simp, rfl⟩, ?_⟩
    rintro n σ H3 ⟨rfl, x, y, rfl, hx, hy, hgg, rfl⟩
    walk_at "rf"
    by_cases c : 0 < y
    · rw [if_pos c]
      refine ⟨fun σ' H' => σ' = [some (.ref l), some (.int y), some (.int m), some (.int (x % y))] ∧ H' = H3, fun σ' H' ⟨h1, h2⟩ => ?_, c, rfl, rfl⟩
      have b1 := Int.emod_nonneg x (show y ≠ 0 by omega)
      have b2 := Int.emod_lt_of_pos x c
      exact ⟨_, by omega, h2, y, x % y, h1, by omega, b1, (gcd_step x y hx).trans hgg, rfl⟩
    · rw [if_neg c]
      have e : y = 0 := by omega
      subst e
      have e2 : x = gl (ns.take (i + 1)) := by
        rw [gl_take_succ hm, ← hgg, Int.gcd_zero_right]
        omega
      rw [e2]
      exact ⟨rfl, _, rfl⟩
  · rintro σ H2 ⟨rfl, o2, o3, rfl⟩
    rw [List.length_map, List.take_length]
    walk_at "rf"
    exact q
def vdiv (g : Int) (v : V) : V := match v with | .int i => .int (i / g) | _ => v
theorem map_vdiv (g : Int) (ns : List Int) : (ns.map V.int).map (vdiv g) = (ns.map (· / g)).map V.int := by
  rw [List.map_map, List.map_map]
  rfl
theorem ok_lowl (T : Tx K mg t1 t2) (F : At K mg "_law_lowest" s__law_lowest ["numbers"] []) (d__law_divisor : DefOk P w K mg base CX0 1 "_law_divisor" ["numbers"] [] spDivL) : DefOk P w K mg base CX0 2 "_law_lowest" ["numbers"] [] spLowL := by
  refine F.ok sc__law_lowest (fun vs H Q E h => ?_) (fun f cdv A outer s H vs Q E hr h => ?_)
  · obtain ⟨l, ns, rfl, _⟩ := h
    rfl
  obtain ⟨l, ns, rfl, hl, h10, gp, gf, q⟩ := h
  have S := sc__law_lowest
  refine ⟨_, (pss_cons (ps_set (i := 1) S.nd rfl (Or.inr rfl) (pe_callD d__law_divisor (hr.mono (by decide)) rfl pass0 (pa_cons (pv 0) pa_nil se_nam)))
    (pss_one (ps_ret (pe_callTy call_tupleL rfl T.m_tuple boot_tuple (pa_cons (pe_comp rfl (N' := ["number", "by"]) (ix := [1]) ⟨rfl, rfl, by decide +kernel, by decide +kernel, rfl, by decide +kernel, (show ∀ y : Str × NameKind, y ∈ _ → y.2 = NameKind.free → (defScope s__law_lowest).names.lookup y.1 = some .cell ∨ (defScope s__law_lowest).names.lookup y.1 = some .free from by decide +kernel), (.cons rfl (.inl rfl) rfl .nil)⟩ (pi_list (pv 0)) (fun _ _ _ _ => pg_name (i := 0) (show (["number", "by"] : List Str).Nodup from by decide +kernel) rfl (Or.inl rfl)) (fun _ _ _ _ => pts_nil) (fun _ _ _ _ => (pe_op op_fdivB (pv 0) (pv 1)))) pa_nil se_cmp))))), ?_⟩
  have k1 : SqL K H l (ns.map V.int) := SqL.of hl
  walk_at "rf"
  refine ⟨l, ns, rfl, hl, ?_⟩
  walk_at "rf"
  refine ⟨⟨_, k1⟩, fun acc hacc => ?_⟩
  refine compL (vdiv (gl ns)) (by rw [List.length_map]; omega) hacc k1 ?_ ?_
  · intro z H3 R hz s3 hR
    obtain ⟨m, hm, rfl⟩ := List.mem_map.mp hz
    walk_at "rf"
    exact ⟨gp, gf, hR _ (Same.refl _)⟩
  intro H1 s1 e1
  rw [map_vdiv] at e1
  exact ⟨_, SqL.of e1, fun t ht => q t _ (s1.trans (Same.new ht _)) upd_same⟩
theorem ok_lcross (T : Tx K mg t1 t2) (F : At K mg "_law_cross" s__law_cross ["one", "other"] []) : DefOk P w K mg base CX0 1 "_law_cross" ["one", "other"] [] spCross := by
  refine F.ok sc__law_cross (fun vs H Q E h => ?_) (fun f cdv A outer s H vs Q E hr h => ?_)
  · obtain ⟨r, p, a, b, c, x, y, z, rfl, _⟩ := h
    rfl
  obtain ⟨r, p, a, b, c, x, y, z, rfl, ⟨h1, sa, sb, sc⟩, ⟨h2, sx, sy, sz⟩, q⟩ := h
  have S := sc__law_cross
  refine ⟨_, (pss_one (ps_ret (pe_tup (pa_cons (pe_op op_sub (pe_op op_mulB (pe_ix ix_tup (pv 0) pe_int (fun _ _ => rfl)) (pe_ix ix_tup (pv 1) pe_int (fun _ _ => rfl))) (pe_op op_mulB (pe_ix ix_tup (pv 0) pe_int (fun _ _ => rfl)) (pe_ix ix_tup (pv 1) pe_int (fun _ _ => rfl)))) (pa_cons (pe_op op_sub (pe_op op_mulB (pe_ix ix_tup (pv 0) pe_int (fun _ _ => rfl)) (pe_ix ix_tup (pv 1) pe_int (fun _ _ => rfl))) (pe_op op_mulB (pe_ix ix_tup (pv 0) pe_int (fun _ _ => rfl)) (pe_ix ix_tup (pv 1) pe_int (fun _ _ => rfl)))) (pa_cons (pe_op op_sub (pe_op op_mulB (pe_ix ix_tup (pv 0) pe_int (fun _ _ => rfl)) (pe_ix ix_tup (pv 1) pe_int (fun _ _ => rfl))) (pe_op op_mulB (pe_ix ix_tup (pv 0) pe_int (fun _ _ => rfl)) (pe_ix ix_tup (pv 1) pe_int (fun _ _ => rfl)))) pa_nil se_bin) se_bin) se_bin)))), ?_⟩
  have k1 : SqT K H r [.int a, .int b, .int c] := SqT.of h1
  have k2 : SqT K H p [.int x, .int y, .int z] := SqT.of h2
  have fa := sa.bd.fit
  have fb := sb.bd.fit
  have fc := sc.bd.fit
  have fx := sx.bd.fit
  have fy := sy.bd.fit
  have fz := sz.bd.fit
  walk_at "rf"
  walk_at "gf"
  intro t ht
  exact q t _ (Same.new ht _) upd_same
structure Tri where
  x : Int
  y : Int
  z : Int
def Tri.bd (n : Nat) (v : Tri) : Prop := Bd n v.x ∧ Bd n v.y ∧ Bd n v.z
def T3 (H : Hp) (r : Addr) (v : Tri) : Prop := H r = some (.tup [.int v.x, .int v.y, .int v.z]) ∧ v.bd 42
theorem T3.keep {H H' : Hp} {r : Addr} {v : Tri} (h : T3 H r v) (s : SameT H H') : T3 H' r v := ⟨s _ _ h.1, h.2⟩
theorem T3.t {H : Hp} {r : Addr} {v : Tri} (h : T3 H r v) : Tup3 H r v.x v.y v.z := ⟨h.1, Bd.mono h.2.1, Bd.mono h.2.2.1, Bd.mono h.2.2.2⟩
structure Sht where
  s : Tri
  w : Int
  c : Tri
  d : Tri
def Sht.u (S : Sht) : Tri := ⟨S.c.y * S.d.z - S.c.z * S.d.y, S.c.z * S.d.x - S.c.x * S.d.z, S.c.x * S.d.y - S.c.y * S.d.x⟩
def Tri.nz (v : Tri) : Prop := ¬ (v.x = 0 ∧ v.y = 0 ∧ v.z = 0)
def IsSh (H : Hp) (t : Addr) (S : Sht) : Prop := ∃ a c d : Addr, H t = some (.tup [.ref a, .int S.w, .ref c, .ref d]) ∧ T3 H a S.s ∧ T3 H c S.c ∧ T3 H d S.d ∧ 1 ≤ S.w ∧ S.w ≤ 100 ∧ S.u.nz
theorem IsSh.keep {H H' : Hp} {t : Addr} {S : Sht} (h : IsSh H t S) (s : SameT H H') : IsSh H' t S := by
  obtain ⟨a, c, d, h1, h2, h3, h4, h5⟩ := h
  exact ⟨a, c, d, s _ _ h1, h2.keep s, h3.keep s, h4.keep s, h5⟩
/-- the box: a list with one number -/
def Box (H : Hp) (L : Addr) : Prop := ∃ m : Int, H L = some (.lst [.int m])
theorem SameB.t {L : Addr} {H H' : Hp} (s : SameB L H H') (h : Box H L) : SameT H H' := fun b xs hb => by
  by_cases e : b = L
  · obtain ⟨m, hm⟩ := h
    rw [e, hm] at hb
    cases hb
  · exact s b _ e hb
def spSheet : Sp := fun vs H Q _ => ∃ L : Addr, vs = [.ref L] ∧ Box H L ∧ ∀ (t : Addr) (H' : Hp) (S : Sht), SameB L H H' → Box H' L → IsSh H' t S → Q (.ref t) H'
def Nine (H : Hp) (N : Addr) (ms : List Int) : Prop := H N = some (.lst (ms.map V.int)) ∧ ms.length = 9 ∧ ∀ m ∈ ms, Bd 41 m
theorem nineL {ms : List Int} (h : ms.length = 9) : ∃ a b c d e f g i j, ms = [a, b, c, d, e, f, g, i, j] := by
  match ms, h with
  | [a, b, c, d, e, f, g, i, j], _ => exact ⟨a, b, c, d, e, f, g, i, j, rfl⟩
def zM0 (H : Hp) (L : Addr) : L2.St → Hp → Prop := fun σ H' => ∃ sp : Int, σ = [some (.ref L), some (.int sp), none, none, none, none, none] ∧ 0 < sp ∧ sp ≤ 1000000000000 ∧ SameB L H H' ∧ Box H' L
def zM1 (H : Hp) (L : Addr) : L2.St → Hp → Prop := fun σ H' => ∃ (N : Addr) (ms : List Int) (o1 : Option V), σ = [some (.ref L), o1, some (.ref N), none, none, none, none] ∧ Nine H' N ms ∧ N ≠ L ∧ SameB L H H' ∧ Box H' L
def zM3 (H : Hp) (L : Addr) : L2.St → Hp → Prop := fun σ H' => ∃ (N a : Addr) (ms : List Int) (c : Tri) (o1 : Option V), σ = [some (.ref L), o1, some (.ref N), some (.ref a), none, none, none] ∧ Nine H' N ms ∧ N ≠ L ∧ T3 H' a c ∧ c.nz ∧ SameB L H H' ∧ Box H' L
def vv (v : Tri) : Nat → Tri
  | 0 => v
  | 1 => ⟨v.x + 1, v.y, v.z⟩
  | 2 => ⟨v.x, v.y + 1, v.z⟩
  | _ => ⟨v.x, v.y, v.z + 1⟩
def Few (H : Hp) (rs : List Addr) (v : Tri) : Prop := ∀ (i : Nat) (r : Addr), rs[i]? = some r → T3 H r (vv v i)
def zM5 (H : Hp) (L : Addr) : L2.St → Hp → Prop := fun σ H' => ∃ (N a b : Addr) (ms : List Int) (c v : Tri) (rs : List Addr) (o1 o5 : Option V), σ = [some (.ref L), o1, some (.ref N), some (.ref a), some (.ref b), o5, none] ∧ Nine H' N ms ∧ N ≠ L ∧ T3 H' a c ∧ c.nz ∧ SameB L H H' ∧ Box H' L ∧ H' b = some (.lst (rs.map V.ref)) ∧ rs.length = 4 ∧ Few H' rs v
def zM6 (H : Hp) (L : Addr) : L2.St → Hp → Prop := fun σ H' => ∃ (N a d : Addr) (ms : List Int) (c v : Tri) (o1 o4 o5 : Option V), σ = [some (.ref L), o1, some (.ref N), some (.ref a), o4, o5, some (.ref d)] ∧ Nine H' N ms ∧ N ≠ L ∧ T3 H' a c ∧ T3 H' d v ∧ (Sht.u ⟨c, 0, c, v⟩).nz ∧ SameB L H H' ∧ Box H' L
def nzb (c v : Tri) : Bool := !decide ([c.y * v.z - c.z * v.y, c.z * v.x - c.x * v.z, c.x * v.y - c.y * v.x] = [0, 0, 0])
theorem nzb_of {c v : Tri} (h : nzb c v = true) : (Sht.u ⟨c, 0, c, v⟩).nz := fun z => by
  unfold nzb at h
  obtain ⟨z1, z2, z3⟩ := z
  unfold Sht.u at z1 z2 z3
  simp only at z1 z2 z3
  rw [z1, z2, z3] at h
  simp at h
theorem nzb_f {c v : Tri} (h : nzb c v = false) : c.y * v.z - c.z * v.y = 0 ∧ c.z * v.x - c.x * v.z = 0 ∧ c.x * v.y - c.y * v.x = 0 := by
  unfold nzb at h
  rw [Bool.not_eq_false', decide_eq_true_eq] at h
  simp only [List.cons.injEq, and_true] at h
  exact h
theorem some_nz {c : Tri} (h : c.nz) (v : Tri) : ∃ i, i < 4 ∧ nzb c (vv v i) = true := by
  apply Classical.byContradiction
  intro n
  have f : ∀ i, i < 4 → nzb c (vv v i) = false := fun i hi => by
    cases e : nzb c (vv v i) with
    | false => rfl
    | true => exact absurd ⟨i, hi, e⟩ n
  obtain ⟨a1, a2, a3⟩ := nzb_f (f 0 (by decide))
  obtain ⟨b1, b2, b3⟩ := nzb_f (f 1 (by decide))
  obtain ⟨c1, c2, c3⟩ := nzb_f (f 2 (by decide))
  unfold vv at a1 a2 a3 b1 b2 b3 c1 c2 c3
  simp only at a1 a2 a3 b1 b2 b3 c1 c2 c3
  rw [Int.mul_add] at b2 b3 c1 c3
  exact h ⟨by omega, by omega, by omega⟩
theorem first_nz {c : Nat → Bool} {f : Nat → V} (h : ∃ i, i < 4 ∧ c i = true) : ∃ (j : Nat) (rest : List V), j < 4 ∧ c j = true ∧ ((List.range 4).filter c).map f = f j :: rest := by
  obtain ⟨i, hi, ci⟩ := h
  have m : i ∈ (List.range 4).filter c := List.mem_filter.mpr ⟨List.mem_range.mpr hi, ci⟩
  cases e : (List.range 4).filter c with
  | nil => rw [e] at m; cases m
  | cons j r =>
    have mj : j ∈ (List.range 4).filter c := by rw [e]; exact List.mem_cons_self
    obtain ⟨m1, m2⟩ := List.mem_filter.mp mj
    exact ⟨j, r.map f, List.mem_range.mp m1, m2, rfl⟩
theorem bd41 {i : Int} (h1 : -2199023255552 < i) (h2 : i < 2199023255552) : Bd 41 i := by
  unfold Bd
  have e : (2 ^ 41 : Nat) = 2199023255552 := by decide
  rw [e]
  omega
theorem ok_sheet (T : Tx K mg t1 t2) (F : At K mg "_law_sheet" s__law_sheet ["left"] []) (d__law_next : DefOk P w K mg base CX0 1 "_law_next" ["left", "base"] [] spNext) (d__law_cross : DefOk P w K mg base CX0 1 "_law_cross" ["one", "other"] [] spCross) : DefOk P w K mg base CX0 2 "_law_sheet" ["left"] [] spSheet := by
  refine F.ok sc__law_sheet (fun vs H Q E h => ?_) (fun f cdv A outer s H vs Q E hr h => ?_)
  · obtain ⟨L, rfl, _⟩ := h
    rfl
  obtain ⟨L, rfl, hB, q⟩ := h
  have S := sc__law_sheet
  refine ⟨_, (pss_cut (zM0 H L) (ps_set (i := 1) S.nd rfl (Or.inr rfl) (pe_ix ix_list (pe_lst (pa_cons pe_int (pa_cons pe_int (pa_cons pe_int (pa_cons (pe_op op_pow pe_int pe_int) (pa_cons (pe_op op_pow pe_int pe_int) pa_nil se_bin) se_bin) se_con) se_con) se_con)) (pe_callD d__law_next (hr.mono (by decide)) rfl pass0 (pa_cons (pv 0) (pa_cons pe_int pa_nil se_con) se_nam)) (fun _ _ => rfl)))
    (pss_cut (zM1 H L) (ps_set (i := 2) S.nd rfl (Or.inr rfl) (pe_comp rfl (N' := ["k", "left", "span"]) (ix := [0, 1]) ⟨rfl, rfl, by decide +kernel, by decide +kernel, rfl, by decide +kernel, (show ∀ y : Str × NameKind, y ∈ _ → y.2 = NameKind.free → (defScope s__law_sheet).names.lookup y.1 = some .cell ∨ (defScope s__law_sheet).names.lookup y.1 = some .free from by decide +kernel), (.cons rfl (.inl rfl) rfl (.cons rfl (.inl rfl) rfl .nil))⟩ (pi_range1 rfl T.m_range (pa_cons pe_int pa_nil se_con)) (fun _ _ _ _ => pg_name (i := 0) (show (["k", "left", "span"] : List Str).Nodup from by decide +kernel) rfl (Or.inl rfl)) (fun _ _ _ _ => pts_nil) (fun _ _ _ _ => (pe_op op_sub (pe_callD d__law_next (hr.mono (by decide)) rfl pass0 (pa_cons (pv 1) (pa_cons (pe_op op_add (pe_op op_mulB pe_int (pv 2)) pe_int) pa_nil se_bin) se_nam)) (pv 2)))))
    (pss_cons (ps_set (i := 3) S.nd rfl (Or.inr rfl) (pe_callTy call_tupleL rfl T.m_tuple boot_tuple (pa_cons (pe_slice sl_list (pv 2) (po_some pe_int) (po_some pe_int)) pa_nil se_sub)))
    (pss_cut (zM3 H L) (ps_if (pt_cmpR (op_eqD (un64 hr)) (pv 3) (pe_tup (pa_cons pe_int (pa_cons pe_int (pa_cons pe_int pa_nil se_con) se_con) se_con)) (nomark _))
    (pss_one (ps_set (i := 3) S.nd rfl (Or.inr rfl) (pe_tup (pa_cons pe_int (pa_cons pe_int (pa_cons pe_int pa_nil se_con) se_con) se_con))))
    pss_nil)
    (pss_cons (ps_set (i := 4) S.nd rfl (Or.inl rfl) (pe_lst (pa_cons (pe_callTy call_tupleL rfl T.m_tuple boot_tuple (pa_cons (pe_slice sl_list (pv 2) (po_some pe_int) po_none) pa_nil se_sub)) pa_nil se_cal)))
    (pss_cut (zM5 H L) (ps_for PassesOwn.never rfl (pi_range1 rfl T.m_range (pa_cons pe_int pa_nil se_con)) (pg_name (i := 5) S.nd rfl (Or.inr rfl))
    (pss_one (ps_expr (pe_bm PySem.F.plainAttrs_list PySem.F.slot_list_append PySem.F.type_list_append mt_append (pv 4) (pa_cons (pe_callTy call_tupleL rfl T.m_tuple boot_tuple (pa_cons (pe_comp rfl (N' := ["j", "numbers", "k"]) (ix := [2, 5]) ⟨rfl, rfl, by decide +kernel, by decide +kernel, rfl, by decide +kernel, (show ∀ y : Str × NameKind, y ∈ _ → y.2 = NameKind.free → (defScope s__law_sheet).names.lookup y.1 = some .cell ∨ (defScope s__law_sheet).names.lookup y.1 = some .free from by decide +kernel), (.cons rfl (.inl rfl) rfl (.cons rfl (.inl rfl) rfl .nil))⟩ (pi_range1 rfl T.m_range (pa_cons pe_int pa_nil se_con)) (fun _ _ _ _ => pg_name (i := 0) (show (["j", "numbers", "k"] : List Str).Nodup from by decide +kernel) rfl (Or.inl rfl)) (fun _ _ _ _ => pts_nil) (fun _ _ _ _ => (pe_op op_add (pe_ix (ix_listK (K := K) rfl) (pv 1) (pe_op op_add pe_int (pv 0)) (fun _ _ => rfl)) (pe_callTy call_int1 rfl T.m_int boot_int (pa_cons (pe_cmpR op_eq (pv 0) (pv 2) (nomark _)) pa_nil se_cmpr))))) pa_nil se_cmp)) pa_nil se_cal)))))
    (pss_cut (zM6 H L) (ps_set (i := 6) S.nd rfl (Or.inl rfl) (pe_ix ix_list (pe_comp rfl (N' := ["one", "across"]) (ix := [3]) ⟨rfl, rfl, by decide +kernel, by decide +kernel, rfl, by decide +kernel, (show ∀ y : Str × NameKind, y ∈ _ → y.2 = NameKind.free → (defScope s__law_sheet).names.lookup y.1 = some .cell ∨ (defScope s__law_sheet).names.lookup y.1 = some .free from by decide +kernel), (.cons rfl (.inl rfl) rfl .nil)⟩ (pi_list (pv 4)) (fun _ _ _ _ => pg_name (i := 0) (show (["one", "across"] : List Str).Nodup from by decide +kernel) rfl (Or.inl rfl)) (fun _ _ _ _ => (pts_one (pt_cmpR (op_neDK (K := K) rfl (un64 hr)) (pe_callD d__law_cross (hr.mono (by decide)) rfl pass0 (pa_cons (pv 1) (pa_cons (pv 0) pa_nil se_nam) se_nam)) (pe_tup (pa_cons pe_int (pa_cons pe_int (pa_cons pe_int pa_nil se_con) se_con) se_con)) (nomark _)))) (fun _ _ _ _ => (pv 0))) pe_int (fun _ _ => rfl)))
    (pss_one (ps_ret (pe_tup (pa_cons (pe_callTy call_tupleL rfl T.m_tuple boot_tuple (pa_cons (pe_slice sl_list (pv 2) po_none (po_some pe_int)) pa_nil se_sub)) (pa_cons (pe_op op_add pe_int (pe_op op_mulB (pe_callD d__law_next (hr.mono (by decide)) rfl pass0 (pa_cons (pv 0) (pa_cons pe_int pa_nil se_con) se_nam)) (pe_callD d__law_next (hr.mono (by decide)) rfl pass0 (pa_cons (pv 0) (pa_cons pe_int pa_nil se_con) se_nam)))) (pa_cons (pv 3) (pa_cons (pv 6) pa_nil se_nam) se_nam) se_bin) se_cal))))))))))), ?_⟩
  obtain ⟨n, hL⟩ := hB
  have e6 : (10 : Int) ^ Int.toNat 6 = 1000000 := by decide
  have e12 : (10 : Int) ^ Int.toNat 12 = 1000000000000 := by decide
  walk_at "rf"
  simp only [e6, e12]
  refine ⟨⟨by decide, by decide, by decide⟩, ⟨by decide, by decide, by decide⟩, by decide, fun p hp => ?_, ?_⟩
  · have s1 := Same.new hp (.lst [.int 2, .int 4, .int 9, .int 1000000, .int 1000000000000])
    have e1 : upd H p (.lst [.int 2, .int 4, .int 9, .int 1000000, .int 1000000000000]) p = some (.lst [.int 2, .int 4, .int 9, .int 1000000, .int 1000000000000]) := upd_same
    have ne : L ≠ p := ne_of_none hL hp
    generalize upd H p (.lst [.int 2, .int 4, .int 9, .int 1000000, .int 1000000000000]) = H1 at s1 e1 ⊢
    refine ⟨L, 5, n, rfl, s1 _ _ hL, by decide, .o (by decide) (by decide), ?_⟩
    have s2 : SameB L H (upd H1 L (.lst [.int (n / 5)])) := s1.b.box
    have b2 : Box (upd H1 L (.lst [.int (n / 5)])) L := ⟨_, upd_same⟩
    have kp : SqL K (upd H1 L (.lst [.int (n / 5)])) p [.int 2, .int 4, .int 9, .int 1000000, .int 1000000000000] := SqL.of (by rw [upd_ne (Ne.symm ne)]; exact e1)
    have e5 : n % 5 = 0 ∨ n % 5 = 1 ∨ n % 5 = 2 ∨ n % 5 = 3 ∨ n % 5 = 4 := by omega
    rcases e5 with e | e | e | e | e <;> rw [e]
    · exact ixL kp rfl ⟨_, rfl, by decide, by decide, s2, b2⟩
    · exact ixL kp rfl ⟨_, rfl, by decide, by decide, s2, b2⟩
    · exact ixL kp rfl ⟨_, rfl, by decide, by decide, s2, b2⟩
    · exact ixL kp rfl ⟨_, rfl, by decide, by decide, s2, b2⟩
    · exact ixL kp rfl ⟨_, rfl, by decide, by decide, s2, b2⟩
  rintro σ1 H1 ⟨sp, rfl, sp0, sp1, s1, m, hm⟩
  walk_at "rf"
  refine ⟨by decide, by decide, fun acc hacc => ?_, ?_⟩
  · have nL : acc ≠ L := Ne.symm (ne_of_none hm hacc)
    refine comp_range (lo := 0) (n := 9) (fun j xs H3 => SameB L H1 H3 ∧ H3 acc = some (.lst xs) ∧ Box H3 L ∧ ∃ ms : List Int, xs = ms.map V.int ∧ ms.length = j ∧ ∀ m ∈ ms, Bd 41 m) ⟨(SameB.refl L H1).acc hacc, upd_same, ⟨m, by rw [upd_ne (Ne.symm nL)]; exact hm⟩, [], rfl, rfl, fun m h => nomatch h⟩ ?_ ?_
    · rintro j xs H3 hj ⟨k1, k2, ⟨m3, k3⟩, ms, rfl, hl, hb⟩
      have r0 := Int.emod_nonneg m3 (show 2 * sp + 1 ≠ 0 by omega)
      have r1 := Int.emod_lt_of_pos m3 (show 0 < 2 * sp + 1 by omega)
      walk_at "rf"
      refine ⟨.o (by decide) (by decide), .o (by omega) (by omega), L, _, m3, rfl, k3, by omega, .o (by omega) (by omega), ?_⟩
      walk_at "rf"
      refine ⟨by rw [upd_ne nL]; exact k2, lt_line (by rw [List.length_map]; omega), (k1.box).acc hacc, upd_same, ⟨_, by rw [upd_ne (Ne.symm nL)]; exact upd_same⟩, ms ++ [m3 % (2 * sp + 1) - sp], by rw [List.map_append]; rfl, by rw [List.length_append, hl]; rfl, fun y hy => ?_⟩
      rcases List.mem_append.mp hy with h | h
      · exact hb y h
      · rw [List.mem_singleton] at h
        subst h
        exact bd41 (by omega) (by omega)
    · rintro xs H3 ⟨k1, k2, k3, ms, rfl, hl, hb⟩
      exact ⟨acc, ms, _, rfl, ⟨k2, hl, hb⟩, nL, s1.trans k1, k3⟩
  clear hm s1 sp0 sp1
  rintro σ2 H2 ⟨N, ms, o1, rfl, ⟨hN, hl, hb⟩, nL, s2, b2⟩
  obtain ⟨n0, n1, n2, n3, n4, n5, n6, n7, n8, rfl⟩ := nineL hl
  walk_at "rf"
  refine ⟨N, _, rfl, SqL.of hN, fun a1 h_a1 => ?_⟩
  have c1 : cutV ([n0, n1, n2, n3, n4, n5, n6, n7, n8].map V.int) (some 3) (some 6) = [.int n3, .int n4, .int n5] := rfl
  rw [c1]
  have s_a1 := Same.new h_a1 (.lst [.int n3, .int n4, .int n5])
  have e_a1 : upd H2 a1 (.lst [.int n3, .int n4, .int n5]) a1 = some (.lst [.int n3, .int n4, .int n5]) := upd_same
  generalize upd H2 a1 (.lst [.int n3, .int n4, .int n5]) = J1 at s_a1 e_a1 ⊢
  refine ⟨a1, rfl, _, SqL.of e_a1, fun a2 h_a2 => ?_⟩
  have s_a2 := Same.new h_a2 (.tup [.int n3, .int n4, .int n5])
  have e_a2 : upd J1 a2 (.tup [.int n3, .int n4, .int n5]) a2 = some (.tup [.int n3, .int n4, .int n5]) := upd_same
  generalize upd J1 a2 (.tup [.int n3, .int n4, .int n5]) = J2 at s_a2 e_a2 ⊢
  refine ⟨by decide, fun a3 h_a3 => ?_, ?_⟩
  · have s_a3 := Same.new h_a3 (.tup [.int 0, .int 0, .int 0])
    have e_a3 : upd J2 a3 (.tup [.int 0, .int 0, .int 0]) a3 = some (.tup [.int 0, .int 0, .int 0]) := upd_same
    generalize upd J2 a3 (.tup [.int 0, .int 0, .int 0]) = J3 at s_a3 e_a3 ⊢
    have s23 := s_a1.trans (s_a2.trans s_a3)
    have hN3 := s23 _ _ hN
    have b3 : Box J3 L := let ⟨m, hm⟩ := b2; ⟨m, s23 _ _ hm⟩
    refine eqT_ints (x := [n3, n4, n5]) (y := [0, 0, 0]) (SqT.of (s_a3 _ _ e_a2)) (SqT.of e_a3) ⟨_, rfl, ?_⟩
    refine ite2 (fun c => ⟨by decide, fun a4 h_a4 => ?_⟩) fun c => ?_
    · have s4 := Same.new h_a4 (.tup [.int 1, .int 0, .int 0])
      exact ⟨N, a4, _, ⟨1, 0, 0⟩, _, rfl, ⟨s4 _ _ hN3, hl, hb⟩, nL, ⟨upd_same, by unfold Tri.bd Bd; decide⟩, by unfold Tri.nz; simp, s2.trans (s23.trans s4).b, let ⟨m, hm⟩ := b3; ⟨m, s4 _ _ hm⟩⟩
    · refine ⟨N, a2, _, ⟨n3, n4, n5⟩, _, rfl, ⟨hN3, hl, hb⟩, nL, ⟨s_a3 _ _ e_a2, (hb n3 (by simp)).mono, (hb n4 (by simp)).mono, (hb n5 (by simp)).mono⟩, fun z => c ?_, s2.trans s23.b, b3⟩
      obtain ⟨z1, z2, z3⟩ := z
      simp only at z1 z2 z3
      rw [z1, z2, z3]
      rfl
  clear e_a1 e_a2 s_a1 s_a2 hN hb hl h_a1 h_a2
  rintro σ3 H3 ⟨N, a, ms, c, o1, rfl, ⟨hN, hl, hb⟩, nL, hc, cnz, s3, b3⟩
  obtain ⟨n0, n1, n2, n3, n4, n5, n6, n7, n8, rfl⟩ := nineL hl
  walk_at "rf"
  refine ⟨N, _, rfl, SqL.of hN, fun a1 h_a1 => ?_⟩
  have c1 : cutV ([n0, n1, n2, n3, n4, n5, n6, n7, n8].map V.int) (some 6) none = [.int n6, .int n7, .int n8] := rfl
  rw [c1]
  have s_a1 := Same.new h_a1 (.lst [.int n6, .int n7, .int n8])
  have e_a1 : upd H3 a1 (.lst [.int n6, .int n7, .int n8]) a1 = some (.lst [.int n6, .int n7, .int n8]) := upd_same
  generalize upd H3 a1 (.lst [.int n6, .int n7, .int n8]) = J1 at s_a1 e_a1 ⊢
  refine ⟨a1, rfl, _, SqL.of e_a1, fun a2 h_a2 => ?_⟩
  have s_a2 := Same.new h_a2 (.tup [.int n6, .int n7, .int n8])
  have e_a2 : upd J1 a2 (.tup [.int n6, .int n7, .int n8]) a2 = some (.tup [.int n6, .int n7, .int n8]) := upd_same
  generalize upd J1 a2 (.tup [.int n6, .int n7, .int n8]) = J2 at s_a2 e_a2 ⊢
  have s32 := s_a1.trans s_a2
  have hN2 := s32 _ _ hN
  have hc2 := hc.keep s32.t
  have b2' : Box J2 L := let ⟨m, hm⟩ := b3; ⟨m, s32 _ _ hm⟩
  have bv : (⟨n6, n7, n8⟩ : Tri).bd 41 := ⟨hb n6 (by simp), hb n7 (by simp), hb n8 (by simp)⟩
  refine ⟨by decide, fun b h_b => ⟨by decide, by decide, ?_, ?_⟩⟩
  · have nN : N ≠ b := ne_of_none hN2 h_b
    have na : a ≠ b := ne_of_none hc2.1 h_b
    have nLb : L ≠ b := by obtain ⟨m, hm⟩ := b2'; exact ne_of_none hm h_b
    have ka2 : a2 ≠ b := ne_of_none e_a2 h_b
    refine for_range (lo := 0) (n := 3) (fun i σ H4 => SameB b J2 H4 ∧ ∃ (rs : List Addr) (o5 : Option V), σ = [some (.ref L), o1, some (.ref N), some (.ref a), some (.ref b), o5, none] ∧ H4 b = some (.lst (rs.map V.ref)) ∧ rs.length = i + 1 ∧ Few H4 rs ⟨n6, n7, n8⟩) ⟨(SameB.refl b J2).box, [a2], none, rfl, upd_same, rfl, fun j r hj => ?_⟩ ?_ ?_
    · cases j with
      | zero =>
        cases hj
        exact ⟨by rw [upd_ne ka2]; exact e_a2, bv.1.mono, bv.2.1.mono, bv.2.2.mono⟩
      | succ j => cases hj
    · rintro i σ H4 hi ⟨s4, rs, o5, rfl, hb4, l4, few⟩
      have hN4 : H4 N = some (.lst [.int n0, .int n1, .int n2, .int n3, .int n4, .int n5, .int n6, .int n7, .int n8]) := s4 N _ nN hN2
      have kN4 : SqL K H4 N [.int n0, .int n1, .int n2, .int n3, .int n4, .int n5, .int n6, .int n7, .int n8] := SqL.of hN4
      have fin : ∀ (i : Nat) (t : Addr) (H5 : Hp), rs.length = i + 1 → i < 3 → Same H4 H5 → H5 t = some (.tup [.int (vv ⟨n6, n7, n8⟩ (i + 1)).x, .int (vv ⟨n6, n7, n8⟩ (i + 1)).y, .int (vv ⟨n6, n7, n8⟩ (i + 1)).z]) →
          SameB b J2 (upd H5 b (.lst (rs.map V.ref ++ [.ref t]))) ∧ ∃ rs' : List Addr, (upd H5 b (.lst (rs.map V.ref ++ [.ref t]))) b = some (.lst (rs'.map V.ref)) ∧ rs'.length = i + 1 + 1 ∧ Few (upd H5 b (.lst (rs.map V.ref ++ [.ref t]))) rs' ⟨n6, n7, n8⟩ := fun i t H5 li i3 s5 e5 => by
        have hb5 := s5 _ _ hb4
        have st : SameT H5 (upd H5 b (.lst (rs.map V.ref ++ [.ref t]))) := SameT.upd hb5
        refine ⟨(s4.trans s5.b).box, rs ++ [t], by rw [List.map_append]; exact upd_same, by rw [List.length_append, li]; rfl, fun j r hj => ?_⟩
        by_cases cj : j < rs.length
        · rw [List.getElem?_append_left cj] at hj
          exact (few j r hj).keep (s5.t.trans st)
        · have ej : j = i + 1 := by
            have z := (List.getElem?_eq_some_iff.mp hj).1
            rw [List.length_append, li] at z
            have : j < i + 1 + 1 := z
            omega
          subst ej
          rw [List.getElem?_append_right (by omega), li, Nat.sub_self] at hj
          cases hj
          refine ⟨st _ _ e5, ?_⟩
          have up : ∀ {x : Int}, Bd 41 x → Bd 42 (x + 1) := fun h => Bd.add h (by unfold Bd; decide)
          match i, i3 with
          | 0, _ => exact ⟨up bv.1, bv.2.1.mono, bv.2.2.mono⟩
          | 1, _ => exact ⟨bv.1.mono, up bv.2.1, bv.2.2.mono⟩
          | 2, _ => exact ⟨bv.1.mono, bv.2.1.mono, up bv.2.2⟩
      walk_at "rf"
      refine ⟨.inl ⟨_, SqL.of hb4⟩, by decide, by decide, fun acc hacc => ?_⟩
      match i, hi with
      | 0, _ =>
        refine compR (n := 3) (fun j => .int (match j with | 0 => n6 + 1 | 1 => n7 | _ => n8)) (by decide) hacc ?_ ?_
        · intro j H5 R hj s5 hR
          have kN5 := s5.seq kN4
          match j, hj with
          | 0, _ =>
            have z := hR H5 (Same.refl _)
            walk_at "rf"
            refine ixL kN5 rfl ?_
            walk_at "rf"
            simpa using z
          | 1, _ =>
            have z := hR H5 (Same.refl _)
            walk_at "rf"
            refine ixL kN5 rfl ?_
            walk_at "rf"
            simpa using z
          | 2, _ =>
            have z := hR H5 (Same.refl _)
            walk_at "rf"
            refine ixL kN5 rfl ?_
            walk_at "rf"
            simpa using z
        intro H5 s5 e5
        refine ⟨_, SqL.of e5, fun t ht => ?_⟩
        obtain ⟨f1, f2⟩ := fin 0 t _ l4 (by decide) (s5.trans (Same.new ht _)) upd_same
        refine ⟨b, _, _, rfl, rfl, (s5.trans (Same.new ht _)) _ _ hb4, lt_line (by rw [List.length_map]; omega), ?_⟩
        exact ⟨f1, f2⟩
      | 1, _ =>
        refine compR (n := 3) (fun j => .int (match j with | 0 => n6 | 1 => n7 + 1 | _ => n8)) (by decide) hacc ?_ ?_
        · intro j H5 R hj s5 hR
          have kN5 := s5.seq kN4
          match j, hj with
          | 0, _ =>
            have z := hR H5 (Same.refl _)
            walk_at "rf"
            refine ixL kN5 rfl ?_
            walk_at "rf"
            simpa using z
          | 1, _ =>
            have z := hR H5 (Same.refl _)
            walk_at "rf"
            refine ixL kN5 rfl ?_
            walk_at "rf"
            simpa using z
          | 2, _ =>
            have z := hR H5 (Same.refl _)
            walk_at "rf"
            refine ixL kN5 rfl ?_
            walk_at "rf"
            simpa using z
        intro H5 s5 e5
        refine ⟨_, SqL.of e5, fun t ht => ?_⟩
        obtain ⟨f1, f2⟩ := fin 1 t _ l4 (by decide) (s5.trans (Same.new ht _)) upd_same
        refine ⟨b, _, _, rfl, rfl, (s5.trans (Same.new ht _)) _ _ hb4, lt_line (by rw [List.length_map]; omega), ?_⟩
        exact ⟨f1, f2⟩
      | 2, _ =>
        refine compR (n := 3) (fun j => .int (match j with | 0 => n6 | 1 => n7 | _ => n8 + 1)) (by decide) hacc ?_ ?_
        · intro j H5 R hj s5 hR
          have kN5 := s5.seq kN4
          match j, hj with
          | 0, _ =>
            have z := hR H5 (Same.refl _)
            walk_at "rf"
            refine ixL kN5 rfl ?_
            walk_at "rf"
            simpa using z
          | 1, _ =>
            have z := hR H5 (Same.refl _)
            walk_at "rf"
            refine ixL kN5 rfl ?_
            walk_at "rf"
            simpa using z
          | 2, _ =>
            have z := hR H5 (Same.refl _)
            walk_at "rf"
            refine ixL kN5 rfl ?_
            walk_at "rf"
            simpa using z
        intro H5 s5 e5
        refine ⟨_, SqL.of e5, fun t ht => ?_⟩
        obtain ⟨f1, f2⟩ := fin 2 t _ l4 (by decide) (s5.trans (Same.new ht _)) upd_same
        refine ⟨b, _, _, rfl, rfl, (s5.trans (Same.new ht _)) _ _ hb4, lt_line (by rw [List.length_map]; omega), ?_⟩
        exact ⟨f1, f2⟩
    · rintro σ H4 ⟨s4, rs, o5, rfl, hb4, l4, few⟩
      have ob : ∀ {x : Addr} {o : HO}, x ≠ b → J2 x = some o → H4 x = some o := fun nx h => s4 _ _ nx h
      have sB : SameB L H H4 := s3.trans (fun x o nx hx => by
        have z := s32 x o hx
        exact s4 x o (ne_of_none z h_b) z)
      exact ⟨N, a, b, _, c, _, rs, _, _, rfl, ⟨ob nN hN2, hl, hb⟩, nL, ⟨ob na hc2.1, hc2.2⟩, cnz, sB, let ⟨m, hm⟩ := b2'; ⟨m, ob nLb hm⟩, hb4, l4, few⟩
  clear e_a1 e_a2 s_a1 s_a2 hN2 hc2 b2' bv s32 hN hb hl hc cnz s3 b3 h_a1 h_a2
  rintro σ5 H5 ⟨N, a, b, ms, c, v, rs, o1, o5, rfl, hN9, nL, hc, cnz, s5, b5, hb5, l4, few⟩
  walk_at "rf"
  refine ⟨⟨_, SqL.of hb5⟩, fun acc hacc => ?_, ?_⟩
  · have lr : (rs.map V.ref).length = 4 := by rw [List.length_map, l4]
    have gr : ∀ {i : Nat}, i < 4 → rs[i]? = some (ad rs i) := fun {i} hi => by
      unfold ad
      rw [List.getD_eq_getElem?_getD, List.getElem?_eq_getElem (by omega)]
      rfl
    refine compLif (zs := rs.map V.ref) (fun i => .ref (ad rs i)) (fun i => nzb c (vv v i)) (by omega) hacc (SqL.of hb5) ?_ ?_ ?_
    · intro i z H6 R hi s6 hR
      have hi4 : i < 4 := by have := (List.getElem?_eq_some_iff.mp hi).1; omega
      rw [List.getElem?_map, gr hi4] at hi
      cases hi
      have f6 := (few i _ (gr hi4)).keep s6.t
      walk_at "rf"
      refine ⟨a, ad rs i, c.x, c.y, c.z, (vv v i).x, (vv v i).y, (vv v i).z, rfl, (hc.keep s6.t).t, f6.t, fun t H7 s7 e7 => ⟨by decide, fun m h_m => ?_⟩⟩
      have s_m := Same.new h_m (.tup [.int 0, .int 0, .int 0])
      have e_m : upd H7 m (.tup [.int 0, .int 0, .int 0]) m = some (.tup [.int 0, .int 0, .int 0]) := upd_same
      generalize upd H7 m (.tup [.int 0, .int 0, .int 0]) = H8 at s_m e_m ⊢
      refine neT_ints (x := [c.y * (vv v i).z - c.z * (vv v i).y, c.z * (vv v i).x - c.x * (vv v i).z, c.x * (vv v i).y - c.y * (vv v i).x]) (y := [0, 0, 0]) (SqT.of (s_m _ _ e7)) (SqT.of e_m) ⟨_, rfl, hR _ (s7.trans s_m)⟩
    · intro i z H6 R hi ci s6 hR
      have hi4 : i < 4 := by have := (List.getElem?_eq_some_iff.mp hi).1; omega
      rw [List.getElem?_map, gr hi4] at hi
      cases hi
      walk_at "rf"
      exact hR _ (Same.refl _)
    intro H6 s6 e6'
    rw [lr] at e6'
    obtain ⟨j, rest, j4, jn, ej⟩ := first_nz (f := fun i => V.ref (ad rs i)) (c := fun i => nzb c (vv v i)) (some_nz cnz v)
    rw [ej] at e6'
    refine ixL (SqL.of e6') (atI_nat (j := 0) rfl) ?_
    obtain ⟨hN1, hl1, hb1⟩ := hN9
    exact ⟨N, a, ad rs j, ms, c, vv v j, _, _, _, rfl, ⟨s6 _ _ hN1, hl1, hb1⟩, nL, hc.keep s6.t, (few j _ (gr j4)).keep s6.t, nzb_of jn, s5.trans s6.b, let ⟨m, hm⟩ := b5; ⟨m, s6 _ _ hm⟩⟩
  clear hb5 few l4 s5 b5 hc cnz hN9
  rintro σ6 H6 ⟨N, a, d, ms, c, v, o1, o4, o5, rfl, ⟨hN, hl, hb⟩, nL, hc, hd, nz, s6, m, hm⟩
  obtain ⟨n0, n1, n2, n3, n4, n5, n6, n7, n8, rfl⟩ := nineL hl
  walk_at "rf"
  refine ⟨N, _, rfl, SqL.of hN, fun a1 h_a1 => ?_⟩
  have c1 : cutV ([n0, n1, n2, n3, n4, n5, n6, n7, n8].map V.int) none (some 3) = [.int n0, .int n1, .int n2] := rfl
  rw [c1]
  have s_a1 := Same.new h_a1 (.lst [.int n0, .int n1, .int n2])
  have e_a1 : upd H6 a1 (.lst [.int n0, .int n1, .int n2]) a1 = some (.lst [.int n0, .int n1, .int n2]) := upd_same
  generalize upd H6 a1 (.lst [.int n0, .int n1, .int n2]) = J1 at s_a1 e_a1 ⊢
  refine ⟨a1, rfl, _, SqL.of e_a1, fun a2 h_a2 => ?_⟩
  have s_a2 := Same.new h_a2 (.tup [.int n0, .int n1, .int n2])
  have e_a2 : upd J1 a2 (.tup [.int n0, .int n1, .int n2]) a2 = some (.tup [.int n0, .int n1, .int n2]) := upd_same
  generalize upd J1 a2 (.tup [.int n0, .int n1, .int n2]) = J2 at s_a2 e_a2 ⊢
  have s62 := s_a1.trans s_a2
  have hm2 := s62 _ _ hm
  refine ⟨L, 12, m, rfl, hm2, by decide, .o (by decide) (by decide), ?_⟩
  refine ⟨L, 2, m / 12, rfl, upd_same, by decide, .o (by decide) (by decide), ?_⟩
  have r0 := Int.emod_nonneg m (show (12 : Int) ≠ 0 by decide)
  have r1 := Int.emod_lt_of_pos m (show (0 : Int) < 12 by decide)
  have w0 : 0 ≤ m % 12 * (m / 12 % 2) ∧ m % 12 * (m / 12 % 2) ≤ 11 := by
    have e2 : m / 12 % 2 = 0 ∨ m / 12 % 2 = 1 := by omega
    rcases e2 with e | e <;> rw [e] <;> omega
  rw [upd_upd]
  have sB : SameB L H6 (upd J2 L (.lst [.int (m / 12 / 2)])) := s62.b.box
  have bL : (upd J2 L (.lst [.int (m / 12 / 2)])) L = some (.lst [.int (m / 12 / 2)]) := upd_same
  have ea2 : (upd J2 L (.lst [.int (m / 12 / 2)])) a2 = some (.tup [.int n0, .int n1, .int n2]) := by
    rw [upd_ne (fun z => by rw [z, hm2] at e_a2; cases e_a2)]
    exact e_a2
  have sT : SameT H6 (upd J2 L (.lst [.int (m / 12 / 2)])) := SameB.t sB ⟨m, hm⟩
  generalize upd J2 L (.lst [.int (m / 12 / 2)]) = J3 at sB bL ea2 sT ⊢
  walk_at "rf"
  refine ⟨.o (by omega) (by omega), .o (by omega) (by omega), by decide, fun t ht => ?_⟩
  have s4 := Same.new ht (.tup [.ref a2, .int (1 + m % 12 * (m / 12 % 2)), .ref a, .ref d])
  refine q t _ ⟨⟨n0, n1, n2⟩, 1 + m % 12 * (m / 12 % 2), c, v⟩ (s6.trans (sB.trans s4.b)) ⟨_, s4 _ _ bL⟩ ⟨a2, a, d, upd_same, ⟨s4 _ _ ea2, (hb n0 (by simp)).mono, (hb n1 (by simp)).mono, (hb n2 (by simp)).mono⟩, (hc.keep sT).keep s4.t, (hd.keep sT).keep s4.t, ?_, ?_, nz⟩
  · show 1 ≤ 1 + m % 12 * (m / 12 % 2)
    omega
  · show 1 + m % 12 * (m / 12 % 2) ≤ 100
    omega
def ringP (i : Nat) : Int := match i with | 0 => 1 | 1 => 2 | 2 => 3 | 3 => 3 | 4 => 2 | 5 => 1 | _ => 0
def ringQ (i : Nat) : Int := match i with | 0 => 0 | 1 => 0 | 2 => 1 | 3 => 2 | 4 => 3 | 5 => 3 | 6 => 2 | _ => 1
/-- references to places -/
inductive Plc (H : Hp) : List Addr → List Tri → Prop
  | nil : Plc H [] []
  | cons {r : Addr} {v : Tri} {rs : List Addr} {vs : List Tri} (h : H r = some (.tup [.int v.x, .int v.y, .int v.z])) (t : Plc H rs vs) : Plc H (r :: rs) (v :: vs)
theorem Plc.keep {H H' : Hp} {rs : List Addr} {vs : List Tri} (h : Plc H rs vs) (s : SameT H H') : Plc H' rs vs := by
  induction h with
  | nil => exact .nil
  | cons h _ ih => exact .cons (s _ _ h) ih
theorem Plc.len {H : Hp} {rs : List Addr} {vs : List Tri} (h : Plc H rs vs) : rs.length = vs.length := by
  induction h with
  | nil => rfl
  | cons h _ ih => rw [List.length_cons, List.length_cons, ih]
def Ix (ix : List Nat) : Prop := 3 ≤ ix.length ∧ ix.length ≤ 8 ∧ ix.Pairwise (· < ·) ∧ ∀ i ∈ ix, i < 8
def plc (s t : Int) (i : Nat) : Tri := ⟨ringP i * s, ringQ i * t, s * t⟩
theorem Plc.get {H : Hp} {rs : List Addr} {vs : List Tri} (h : Plc H rs vs) : ∀ {i : Nat} {v : Tri}, vs[i]? = some v → rs[i]? = some (ad rs i) ∧ H (ad rs i) = some (.tup [.int v.x, .int v.y, .int v.z]) := by
  induction h with
  | nil => intro i v hv; simp at hv
  | cons h _ ih =>
    intro i v hv
    cases i with
    | zero =>
      cases hv
      exact ⟨rfl, h⟩
    | succ i => exact ih hv
theorem range8 {i : Nat} (h : i < 8) : ((List.range 8).map (plc 1 1))[i]? = some (plc 1 1 i) := by
  rw [List.getElem?_map, List.getElem?_range h]
  rfl
theorem Plc.sub {H : Hp} {rs : List Addr} (h : Plc H rs ((List.range 8).map (plc 1 1))) : ∀ ix : List Nat, (∀ i ∈ ix, i < 8) → Plc H (ix.map (ad rs)) (ix.map (plc 1 1))
  | [], _ => .nil
  | i :: r, hi => .cons (h.get (range8 (hi i List.mem_cons_self))).2 (Plc.sub h r fun j hj => hi j (List.mem_cons_of_mem _ hj))
theorem plc_of {H : Hp} : ∀ (ys : List V) (vs : List Tri), ys.length = vs.length → (∀ (i : Nat) (y : V) (v : Tri), ys[i]? = some y → vs[i]? = some v → ∃ r : Addr, y = V.ref r ∧ H r = some (.tup [.int v.x, .int v.y, .int v.z])) → ∃ rs : List Addr, ys = rs.map V.ref ∧ Plc H rs vs
  | [], [], _, _ => ⟨[], rfl, .nil⟩
  | y :: ys, v :: vs, hl, h => by
    obtain ⟨r, rfl, hr⟩ := h 0 y v rfl rfl
    obtain ⟨rs, rfl, hp⟩ := plc_of ys vs (by simpa using hl) fun i y v h1 h2 => h (i + 1) y v h1 h2
    exact ⟨r :: rs, rfl, .cons hr hp⟩
theorem compLM {a : Addr} {zs : List V} {n : Nat} {ρ : L2.St} {g : TG} {te : TE} {acc : Addr} {Z : Hp → Prop} {H1 : Hp} (p : Nat → V → Hp → Prop) (st : Stab p) (hn : zs.length < 1000) (hacc : H1 acc = none) (hz : SqL K H1 a zs)
    (hs : ∀ (i : Nat) (z : V) (v0 : L2.St) (H3 : Hp) (R : V → Hp → Prop), zs[i]? = some z → v0.length = n → Same H1 H3 → (∀ y H4, Same H3 H4 → p i y H4 → R y H4) → g z (v0 ++ ρ) H3 fun σ2 H2 => (∃ v : L2.St, v.length = n ∧ σ2 = v ++ ρ) ∧ te σ2 H2 R)
    (hd : ∀ ys H', Same H1 H' → H' acc = some (.lst ys) → ys.length = zs.length → (∀ i y, ys[i]? = some y → p i y H') → Z H')
    (mono : ∀ z σ H (A B : L2.St → Hp → Prop), (∀ σ' H', A σ' H' → B σ' H') → g z σ H A → g z σ H B) : CompGoM (Itl K a) n ρ g tNoIf te acc Z H1 := by
  refine ⟨fun i m xs H => (Same H1 H ∧ H acc = some (.lst xs) ∧ xs.length = i ∧ ∀ j y, xs[j]? = some y → p j y H) ∧ i ≤ zs.length ∧ m = zs.length - i, ⟨zs.length, ⟨Same.new hacc _, upd_same, rfl, fun j y h => by simp at h⟩, Nat.zero_le _, rfl⟩, ?_⟩
  rintro i m xs H ⟨⟨g1, g2, hl, hp⟩, hi, rfl⟩
  have sq := g1.seq hz
  by_cases hlt : i < zs.length
  · have ez : zs[i]? = some zs[i] := List.getElem?_eq_getElem hlt
    refine .inr ⟨⟨zs, zs[i], sq, ez⟩, (fun y H4 => Same H H4 ∧ p i y H4), fun _ => False, ?_, fun _ z => z.elim, ?_⟩
    · rintro y H4 ⟨s4, py⟩
      have u := SameT.upd (ys := xs ++ [y]) (s4 _ _ g2)
      refine ⟨s4 _ _ g2, lt_line (by omega), zs.length - (i + 1), by omega, ⟨Same.keepN (g1.trans s4) hacc _, upd_same, by rw [List.length_append, hl]; rfl, ?_⟩, hlt, rfl⟩
      exact snocP hl (fun j z hz => st _ _ _ _ (hp j z hz) (s4.t.trans u)) (st _ _ _ _ py u)
    · rintro v0 x H' l0 ⟨rfl, hx⟩
      have ex : x = zs[i] := by
        have z := hx zs sq
        rw [ez] at z
        exact (Option.some.inj z).symm
      subst ex
      refine mono _ _ _ _ _ (fun σ' H'' h => ?_) (hs i _ v0 H' (fun y H4 => Same H' H4 ∧ p i y H4) ez l0 g1 fun y H4 s4 py => ⟨s4, py⟩)
      refine ⟨h.1, ?_⟩
      simp only [tNoIf, if_true]
      exact h.2
  · have : i = zs.length := by omega
    subst this
    exact .inl ⟨⟨zs, sq, Nat.le_refl _⟩, hd xs H g1 g2 hl hp⟩
def Rg (H : Hp) (g : Addr) (rs : List Addr) : Prop := H g = some (.lst (rs.map V.ref)) ∧ Plc H rs ((List.range 8).map (plc 1 1))
def hM0 (H : Hp) (L : Addr) : L2.St → Hp → Prop := fun σ H' => ∃ (g : Addr) (rs : List Addr), σ = [some (.ref L), some (.ref g), none, none, none, none] ∧ Rg H' g rs ∧ Same H H'
def hM3 (H : Hp) (L : Addr) : L2.St → Hp → Prop := fun σ H' => ∃ (b : Addr) (qs : List Addr) (ix : List Nat) (o1 o2 : Option V), σ = [some (.ref L), o1, o2, some (.ref b), none, none] ∧ H' b = some (.lst (qs.map V.ref)) ∧ Plc H' qs (ix.map (plc 1 1)) ∧ Ix ix ∧ b ≠ L ∧ SameB L H H' ∧ Box H' L
def hM4 (H : Hp) (L : Addr) : L2.St → Hp → Prop := fun σ H' => ∃ (b : Addr) (qs : List Addr) (ix : List Nat) (s t : Int) (o1 o2 : Option V), σ = [some (.ref L), o1, o2, some (.ref b), some (.int s), some (.int t)] ∧ H' b = some (.lst (qs.map V.ref)) ∧ Plc H' qs (ix.map (plc 1 1)) ∧ Ix ix ∧ SameB L H H' ∧ Box H' L ∧ 1 ≤ s ∧ s ≤ 6 ∧ 1 ≤ t ∧ t ≤ 6
def rX (S : Sht) (v : Tri) : Int := S.s.x * v.z + S.w * (v.x * S.c.x + v.y * S.d.x)
def rY (S : Sht) (v : Tri) : Int := S.s.y * v.z + S.w * (v.x * S.c.y + v.y * S.d.y)
def rZ (S : Sht) (v : Tri) : Int := S.s.z * v.z + S.w * (v.x * S.c.z + v.y * S.d.z)
def rW (S : Sht) (v : Tri) : Int := S.w * v.z
def rG (S : Sht) (v : Tri) : Int := gl [rX S v, rY S v, rZ S v, rW S v]
def spt (S : Sht) (v : Tri) : Pt := ⟨rX S v / rG S v, rY S v / rG S v, rZ S v / rG S v, rW S v / rG S v⟩
def Tri.pl (v : Tri) : Prop := 0 ≤ v.x ∧ v.x ≤ 1000 ∧ 0 ≤ v.y ∧ v.y ≤ 1000 ∧ 1 ≤ v.z ∧ v.z ≤ 1000
def spSpot : Sp := fun vs H Q _ => ∃ (t e : Addr) (S : Sht) (v : Tri), vs = [.ref t, .ref e] ∧ IsSh H t S ∧ H e = some (.tup [.int v.x, .int v.y, .int v.z]) ∧ v.pl ∧ ∀ (g : Addr) (H' : Hp), Same H H' → Is4 H' g (spt S v) → Q (.ref g) H'
theorem bd7 {i : Int} (h1 : -1024 < i) (h2 : i < 1024) : Bd 10 i := by
  unfold Bd
  have e : (2 ^ 10 : Nat) = 1024 := by decide
  rw [e]
  omega
theorem raw_bd {a c d w p q r : Int} (ha : Bd 42 a) (hc : Bd 42 c) (hd : Bd 42 d) (hw : Bd 10 w) (hp : Bd 10 p) (hq : Bd 10 q) (hr : Bd 10 r) : Bd 66 (a * r + w * (p * c + q * d)) :=
  Bd.mono (n := 64) (Bd.add (Bd.mono (n := 52) (Bd.mul (n := 42) (m := 10) ha hr)) (Bd.mul (n := 10) (m := 53) hw (Bd.add (Bd.mul (n := 10) (m := 42) hp hc) (Bd.mul (n := 10) (m := 42) hq hd))))
theorem Bd.div {n : Nat} {i g : Int} (h : Bd n i) : Bd n (i / g) := Nat.lt_of_le_of_lt (Int.natAbs_ediv_le_natAbs i g) h
theorem ok_spot (T : Tx K mg t1 t2) (F : At K mg "_law_spot" s__law_spot ["sheet", "place"] []) (d__law_lowest : DefOk P w K mg base CX0 2 "_law_lowest" ["numbers"] [] spLowL) : DefOk P w K mg base CX0 3 "_law_spot" ["sheet", "place"] [] spSpot := by
  refine F.ok sc__law_spot (fun vs H Q E h => ?_) (fun f cdv A outer s H vs Q E hr h => ?_)
  · obtain ⟨t, e, Z, v, rfl, _⟩ := h
    rfl
  obtain ⟨t, e, Z, v, rfl, ⟨a, c, d, h0, ha, hc, hd, w1, w2, nz⟩, he, pl, q⟩ := h
  have S := sc__law_spot
  refine ⟨_, (pss_cons (ps_asg (pv 0) (pg_tup rfl (pgs_cons (pg_name (i := 2) S.nd rfl (Or.inl rfl)) (pgs_cons (pg_name (i := 3) S.nd rfl (Or.inl rfl)) (pgs_cons (pg_name (i := 4) S.nd rfl (Or.inl rfl)) (pgs_cons (pg_name (i := 5) S.nd rfl (Or.inl rfl)) pgs_nil))))))
    (pss_cons (ps_asg (pv 1) (pg_tup rfl (pgs_cons (pg_name (i := 6) S.nd rfl (Or.inl rfl)) (pgs_cons (pg_name (i := 7) S.nd rfl (Or.inl rfl)) (pgs_cons (pg_name (i := 8) S.nd rfl (Or.inl rfl)) pgs_nil)))))
    (pss_cons (ps_set (i := 9) S.nd rfl (Or.inl rfl) (pe_lst pa_nil))
    (pss_cons (ps_for PassesOwn.never rfl (pi_range1 rfl T.m_range (pa_cons pe_int pa_nil se_con)) (pg_name (i := 10) S.nd rfl (Or.inl rfl))
    (pss_cons (ps_set (i := 11) S.nd rfl (Or.inl rfl) (pe_op op_add (pe_op op_mulB (pv 6) (pe_ix ix_tup (pv 4) (pv 10) (fun _ _ => rfl))) (pe_op op_mulB (pv 7) (pe_ix ix_tup (pv 5) (pv 10) (fun _ _ => rfl)))))
    (pss_one (ps_expr (pe_bm PySem.F.plainAttrs_list PySem.F.slot_list_append PySem.F.type_list_append mt_append (pv 9) (pa_cons (pe_op op_add (pe_op op_mulB (pe_ix ix_tup (pv 2) (pv 10) (fun _ _ => rfl)) (pv 8)) (pe_op op_mulB (pv 3) (pv 11))) pa_nil se_bin))))))
    (pss_one (ps_ret (pe_callD d__law_lowest (hr.mono (by decide)) rfl pass0 (pa_cons (pe_op op_cat (pv 9) (pe_lst (pa_cons (pe_op op_mulB (pv 3) (pv 8)) pa_nil se_bin))) pa_nil se_bin)))))))), ?_⟩
  obtain ⟨p0', p1', q0', q1', r0', r1'⟩ := pl
  have bp := bd7 (i := v.x) (by omega) (by omega)
  have bq := bd7 (i := v.y) (by omega) (by omega)
  have br := bd7 (i := v.z) (by omega) (by omega)
  have bw := bd7 (i := Z.w) (by omega) (by omega)
  have bX : Bd 66 (rX Z v) := raw_bd ha.2.1 hc.2.1 hd.2.1 bw bp bq br
  have bY : Bd 66 (rY Z v) := raw_bd ha.2.2.1 hc.2.2.1 hd.2.2.1 bw bp bq br
  have bZ : Bd 66 (rZ Z v) := raw_bd ha.2.2.2 hc.2.2.2 hd.2.2.2 bw bp bq br
  have bW : Bd 66 (rW Z v) := Bd.mono (n := 20) (Bd.mul (n := 10) (m := 10) bw br)
  have W1 : 0 < rW Z v := Int.mul_pos (by omega) (by omega)
  have k0 : SqT K H t [.ref a, .int Z.w, .ref c, .ref d] := SqT.of h0
  have ke : SqT K H e [.int v.x, .int v.y, .int v.z] := SqT.of he
  walk_at "rf"
  refine ⟨_, k0, ?_⟩
  walk_at "rf"
  refine ⟨rfl, _, ke, ?_⟩
  walk_at "rf"
  refine ⟨rfl, by decide, fun b h_b => ⟨by decide, by decide, ?_⟩⟩
  have s1 := Same.new h_b (.lst [])
  have e1 : upd H b (.lst []) b = some (.lst []) := upd_same
  generalize upd H b (.lst []) = H1 at s1 e1 ⊢
  have fp := bp.fit
  have fq := bq.fit
  have fr := br.fit
  have fw := bw.fit
  have fa0 := ha.2.1.fit
  have fa1 := ha.2.2.1.fit
  have fa2 := ha.2.2.2.fit
  have fc0 := hc.2.1.fit
  have fc1 := hc.2.2.1.fit
  have fc2 := hc.2.2.2.fit
  have fd0 := hd.2.1.fit
  have fd1 := hd.2.2.1.fit
  have fd2 := hd.2.2.2.fit
  have bf : ∀ {x y : Int}, Bd 42 x → Bd 42 y → Fit (v.x * x + v.y * y) := fun hx hy => Bd.fit (n := 53) (Bd.add (Bd.mul (n := 10) (m := 42) bp hx) (Bd.mul (n := 10) (m := 42) bq hy))
  have g0 := bf hc.2.1 hd.2.1
  have g1 := bf hc.2.2.1 hd.2.2.1
  have g2 := bf hc.2.2.2 hd.2.2.2
  refine for_range (lo := 0) (n := 3) (fun i σ H4 => Same H H4 ∧ ∃ o10 o11 : Option V, σ = [some (.ref t), some (.ref e), some (.ref a), some (.int Z.w), some (.ref c), some (.ref d), some (.int v.x), some (.int v.y), some (.int v.z), some (.ref b), o10, o11] ∧ H4 b = some (.lst (([rX Z v, rY Z v, rZ Z v].take i).map V.int))) ⟨s1, none, none, rfl, e1⟩ ?_ ?_
  · rintro i σ H4 hi ⟨s4, o10, o11, rfl, hb4⟩
    have ka : SqT K H4 a [.int Z.s.x, .int Z.s.y, .int Z.s.z] := SqT.of (s4 _ _ ha.1)
    have kc : SqT K H4 c [.int Z.c.x, .int Z.c.y, .int Z.c.z] := SqT.of (s4 _ _ hc.1)
    have kd : SqT K H4 d [.int Z.d.x, .int Z.d.y, .int Z.d.z] := SqT.of (s4 _ _ hd.1)
    match i, hi with
    | 0, _ =>
      walk_at "rf"
      walk_at "gf"
      refine ⟨.inl ⟨_, SqL.of hb4⟩, ?_⟩
      walk_at "gf"
      exact ⟨b, _, _, rfl, rfl, hb4, lt_line (by simp), Same.keep s4 h_b, upd_same⟩
    | 1, _ =>
      walk_at "rf"
      walk_at "gf"
      refine ⟨.inl ⟨_, SqL.of hb4⟩, ?_⟩
      walk_at "gf"
      exact ⟨b, _, _, rfl, rfl, hb4, lt_line (by simp), Same.keep s4 h_b, upd_same⟩
    | 2, _ =>
      walk_at "rf"
      walk_at "gf"
      refine ⟨.inl ⟨_, SqL.of hb4⟩, ?_⟩
      walk_at "gf"
      exact ⟨b, _, _, rfl, rfl, hb4, lt_line (by simp), Same.keep s4 h_b, upd_same⟩
  · rintro σ H4 ⟨s4, o10, o11, rfl, hb4⟩
    walk_at "rf"
    refine ⟨fw, fr, by decide, fun l1 h1 => ?_⟩
    have s5 := Same.new h1 (.lst [.int (Z.w * v.z)])
    have e5 : upd H4 l1 (.lst [.int (Z.w * v.z)]) l1 = some (.lst [.int (Z.w * v.z)]) := upd_same
    generalize upd H4 l1 (.lst [.int (Z.w * v.z)]) = H5 at s5 e5 ⊢
    refine ⟨b, l1, _, _, rfl, rfl, s5 _ _ hb4, e5, by simp; decide, fun l2 h2 => ?_⟩
    have gp : 0 < rG Z v := gl_pos (ns := [rX Z v, rY Z v, rZ Z v, rW Z v]) (n := rW Z v) (by simp) (by omega)
    have gf : Fit (rG Z v) := (small_gl (ns := [rX Z v, rY Z v, rZ Z v, rW Z v]) fun n hn => by
      simp only [List.mem_cons, List.not_mem_nil, or_false] at hn
      rcases hn with rfl | rfl | rfl | rfl
      · exact Bd.mono bX
      · exact Bd.mono bY
      · exact Bd.mono bZ
      · exact Bd.mono bW).bd.fit
    have s6 := Same.new h2 (.lst ([rX Z v, rY Z v, rZ Z v, rW Z v].map V.int))
    refine ⟨l2, [rX Z v, rY Z v, rZ Z v, rW Z v], rfl, upd_same, by simp, gp, gf, fun g H7 s7 e7 => ?_⟩
    exact q g H7 (s4.trans (s5.trans (s6.trans s7))) ⟨e7, Bd.mono (Bd.div bX), Bd.mono (Bd.div bY), Bd.mono (Bd.div bZ), Bd.mono (Bd.div bW)⟩
theorem neg_iff {d m h k : Int} (hm : 0 < m) (hk : 0 < k) (e : d * m = h * k) : d < 0 ↔ h < 0 := by
  constructor
  · intro hd
    apply Classical.byContradiction
    intro n
    have a := Int.mul_neg_of_neg_of_pos hd hm
    have b := Int.mul_nonneg (show 0 ≤ h by omega) (show 0 ≤ k by omega)
    omega
  · intro hh
    apply Classical.byContradiction
    intro n
    have a := Int.mul_neg_of_neg_of_pos hh hk
    have b := Int.mul_nonneg (show 0 ≤ d by omega) (show 0 ≤ m by omega)
    omega
theorem sgn_sh {a b k : Int} {m : Int} (hk : 0 < k) (hm : 0 < m) (e : a * k = m * b) : sgn a = sgn b := by
  have e' : a * k = b * m := by rw [e]; exact Int.mul_comm ..
  have n := neg_iff hk hm e'
  have p := neg_iff (d := -a) (h := -b) hk hm (by rw [Int.neg_mul, Int.neg_mul, e'])
  unfold sgn
  by_cases c : 0 < a
  · rw [if_pos c, if_pos (show b > 0 by omega)]
  · rw [if_neg c, if_neg (show ¬ b > 0 by omega)]
    by_cases d : a < 0
    · rw [if_pos d, if_pos (by omega)]
    · rw [if_neg d, if_neg (by omega)]
theorem minor0 (p o u : Pt) : minor 0 p o u = det3 p.y p.z p.w o.y o.z o.w u.y u.z u.w := rfl
theorem minor1 (p o u : Pt) : minor 1 p o u = det3 p.x p.z p.w o.x o.z o.w u.x u.z u.w := rfl
theorem minor2 (p o u : Pt) : minor 2 p o u = det3 p.x p.y p.w o.x o.y o.w u.x u.y u.w := rfl
theorem minor3 (p o u : Pt) : minor 3 p o u = det3 p.x p.y p.z o.x o.y o.z u.x u.y u.z := rfl
def dt (a b c : Tri) : Int := det3 a.x a.y a.z b.x b.y b.z c.x c.y c.z
theorem det_scale {g1 g2 g3 a b c x y z u v w : Int} : det3 (g1 * a) (g1 * b) (g1 * c) (g2 * x) (g2 * y) (g2 * z) (g3 * u) (g3 * v) (g3 * w) = det3 a b c x y z u v w * (g1 * g2 * g3) := by
  unfold det3
  grind
theorem spt_raw (Z : Sht) (v : Tri) : rG Z v * (spt Z v).x = rX Z v ∧ rG Z v * (spt Z v).y = rY Z v ∧ rG Z v * (spt Z v).z = rZ Z v ∧ rG Z v * (spt Z v).w = rW Z v :=
  ⟨Int.mul_ediv_cancel' (gl_dvd (by simp)), Int.mul_ediv_cancel' (gl_dvd (by simp)), Int.mul_ediv_cancel' (gl_dvd (by simp)), Int.mul_ediv_cancel' (gl_dvd (by simp))⟩
def w3 (Z : Sht) : Int := Z.w * Z.w * Z.w
def ud (Z : Sht) : Int := Z.u.x * Z.s.x + Z.u.y * Z.s.y + Z.u.z * Z.s.z
theorem m0_raw (Z : Sht) (a b c : Tri) : minor 0 (spt Z a) (spt Z b) (spt Z c) * (rG Z a * rG Z b * rG Z c) = w3 Z * Z.u.x * dt a b c := by
  obtain ⟨a1, a2, a3, a4⟩ := spt_raw Z a
  obtain ⟨b1, b2, b3, b4⟩ := spt_raw Z b
  obtain ⟨c1, c2, c3, c4⟩ := spt_raw Z c
  rw [minor0, ← det_scale, a2, a3, a4, b2, b3, b4, c2, c3, c4]
  unfold w3 dt det3 rY rZ rW Sht.u
  grind
theorem m1_raw (Z : Sht) (a b c : Tri) : -minor 1 (spt Z a) (spt Z b) (spt Z c) * (rG Z a * rG Z b * rG Z c) = w3 Z * Z.u.y * dt a b c := by
  obtain ⟨a1, a2, a3, a4⟩ := spt_raw Z a
  obtain ⟨b1, b2, b3, b4⟩ := spt_raw Z b
  obtain ⟨c1, c2, c3, c4⟩ := spt_raw Z c
  rw [Int.neg_mul, minor1, ← det_scale, a1, a3, a4, b1, b3, b4, c1, c3, c4]
  unfold w3 dt det3 rX rZ rW Sht.u
  grind
theorem m2_raw (Z : Sht) (a b c : Tri) : minor 2 (spt Z a) (spt Z b) (spt Z c) * (rG Z a * rG Z b * rG Z c) = w3 Z * Z.u.z * dt a b c := by
  obtain ⟨a1, a2, a3, a4⟩ := spt_raw Z a
  obtain ⟨b1, b2, b3, b4⟩ := spt_raw Z b
  obtain ⟨c1, c2, c3, c4⟩ := spt_raw Z c
  rw [minor2, ← det_scale, a1, a2, a4, b1, b2, b4, c1, c2, c4]
  unfold w3 dt det3 rX rY rW Sht.u
  grind
theorem m3_raw (Z : Sht) (a b c : Tri) : minor 3 (spt Z a) (spt Z b) (spt Z c) * (rG Z a * rG Z b * rG Z c) = Z.w * Z.w * ud Z * dt a b c := by
  obtain ⟨a1, a2, a3, a4⟩ := spt_raw Z a
  obtain ⟨b1, b2, b3, b4⟩ := spt_raw Z b
  obtain ⟨c1, c2, c3, c4⟩ := spt_raw Z c
  rw [minor3, ← det_scale, a1, a2, a3, b1, b2, b3, c1, c2, c3]
  unfold ud dt det3 rX rY rZ Sht.u
  grind
theorem rG_pos {Z : Sht} {v : Tri} (hw : 1 ≤ Z.w) (hv : v.pl) : 0 < rG Z v := by
  have W1 : 0 < rW Z v := Int.mul_pos (by omega) (by have := hv.2.2.2.2.1; omega)
  exact gl_pos (n := rW Z v) (by simp) (by omega)
theorem flat_raw (Z : Sht) (v : Tri) : Z.w * Z.u.x * rX Z v + Z.w * Z.u.y * rY Z v + Z.w * Z.u.z * rZ Z v - ud Z * rW Z v = 0 := by
  unfold ud rX rY rZ rW Sht.u
  grind
theorem flat_spt {Z : Sht} {a b c v : Tri} (hw : 1 ≤ Z.w) (ha : a.pl) (hb : b.pl) (hc : c.pl) (hv : v.pl) : hgt (minor 0 (spt Z a) (spt Z b) (spt Z c)) (-minor 1 (spt Z a) (spt Z b) (spt Z c)) (minor 2 (spt Z a) (spt Z b) (spt Z c)) (minor 3 (spt Z a) (spt Z b) (spt Z c)) (spt Z v) = 0 := by
  have p1 := rG_pos hw ha
  have p2 := rG_pos hw hb
  have p3 := rG_pos hw hc
  have p4 := rG_pos hw hv
  have gp : rG Z a * rG Z b * rG Z c * rG Z v ≠ 0 := Int.ne_of_gt (Int.mul_pos (Int.mul_pos (Int.mul_pos p1 p2) p3) p4)
  refine (Int.mul_eq_zero.mp ?_).resolve_right gp
  obtain ⟨v1, v2, v3, v4⟩ := spt_raw Z v
  have e : hgt (minor 0 (spt Z a) (spt Z b) (spt Z c)) (-minor 1 (spt Z a) (spt Z b) (spt Z c)) (minor 2 (spt Z a) (spt Z b) (spt Z c)) (minor 3 (spt Z a) (spt Z b) (spt Z c)) (spt Z v) * (rG Z a * rG Z b * rG Z c * rG Z v) =
      (minor 0 (spt Z a) (spt Z b) (spt Z c) * (rG Z a * rG Z b * rG Z c)) * (rG Z v * (spt Z v).x) + (-minor 1 (spt Z a) (spt Z b) (spt Z c) * (rG Z a * rG Z b * rG Z c)) * (rG Z v * (spt Z v).y) + (minor 2 (spt Z a) (spt Z b) (spt Z c) * (rG Z a * rG Z b * rG Z c)) * (rG Z v * (spt Z v).z) - (minor 3 (spt Z a) (spt Z b) (spt Z c) * (rG Z a * rG Z b * rG Z c)) * (rG Z v * (spt Z v).w) := by
    unfold hgt
    grind
  rw [e, m0_raw, m1_raw, m2_raw, m3_raw, v1, v2, v3, v4]
  have f := flat_raw Z v
  have e2 : w3 Z * Z.u.x * dt a b c * rX Z v + w3 Z * Z.u.y * dt a b c * rY Z v + w3 Z * Z.u.z * dt a b c * rZ Z v - Z.w * Z.w * ud Z * dt a b c * rW Z v = Z.w * Z.w * dt a b c * (Z.w * Z.u.x * rX Z v + Z.w * Z.u.y * rY Z v + Z.w * Z.u.z * rZ Z v - ud Z * rW Z v) := by
    unfold w3
    grind
  rw [e2, f, Int.mul_zero]
theorem w3_pos {Z : Sht} (hw : 1 ≤ Z.w) : 0 < w3 Z := Int.mul_pos (Int.mul_pos (by omega) (by omega)) (by omega)
theorem arrow_spt {Z : Sht} {a b c : Tri} (hw : 1 ≤ Z.w) (nz : Z.u.nz) (hd : dt a b c ≠ 0) : ¬ noArrow (spt Z a) (spt Z b) (spt Z c) := fun ⟨h0, h1, h2⟩ => by
  have e0 := m0_raw Z a b c
  have e1 := m1_raw Z a b c
  have e2 := m2_raw Z a b c
  rw [h0, Int.zero_mul] at e0
  rw [h1, Int.neg_zero, Int.zero_mul] at e1
  rw [h2, Int.zero_mul] at e2
  have w0 := w3_pos hw
  have c : ∀ {i : Int}, 0 = w3 Z * i * dt a b c → i = 0 := fun {i} e => by
    rcases Int.mul_eq_zero.mp e.symm with q | q
    · rcases Int.mul_eq_zero.mp q with r | r
      · omega
      · exact r
    · exact absurd q hd
  exact nz ⟨c e0, c e1, c e2⟩
/-- the sign of a minor, by the sheet alone, where the places turn left -/
def uk (Z : Sht) (k : Int) : Int := if k = 0 then Z.u.x else if k = 1 then -Z.u.y else Z.u.z
theorem frm_len {ps l : List Pt} (hl : l.length = ps.length) (h : 3 ≤ ps.length) : (frm ps l).length = ps.length := by
  have fl : fF ps < ps.length := by have := argF_le ps (ps.length - 1); unfold fF; omega
  unfold frm turn
  have e := rot_len (f := fF ps) (l := l) (by omega)
  split
  · rw [List.length_append, List.length_take, List.length_reverse, List.length_drop]
    omega
  · omega
theorem sps_of {H : Hp} : ∀ (ys : List V) (ps : List Pt), ys.length = ps.length → (∀ (i : Nat) (y : V) (p : Pt), ys[i]? = some y → ps[i]? = some p → ∃ r : Addr, y = V.ref r ∧ Is4 H r p) → ∃ rs : List Addr, ys = rs.map V.ref ∧ Sps H rs ps
  | [], [], _, _ => ⟨[], rfl, .nil⟩
  | y :: ys, p :: ps, hl, h => by
    obtain ⟨r, rfl, hr⟩ := h 0 y p rfl rfl
    obtain ⟨rs, rfl, hp⟩ := sps_of ys ps (by simpa using hl) fun i y v h1 h2 => h (i + 1) y v h1 h2
    exact ⟨r :: rs, rfl, .cons hr hp⟩
theorem pos_of_mul {g x y : Int} (hg : 0 < g) (e : g * x = y) : (0 ≤ y → 0 ≤ x) ∧ (0 < y → 0 < x) := by
  constructor
  · intro h
    apply Classical.byContradiction
    intro n
    have := Int.mul_neg_of_pos_of_neg hg (show x < 0 by omega)
    omega
  · intro h
    apply Classical.byContradiction
    intro n
    have := Int.mul_nonpos_of_nonneg_of_nonpos (show 0 ≤ g by omega) (show x ≤ 0 by omega)
    omega
theorem spt_w {Z : Sht} {v : Tri} (hw : 1 ≤ Z.w) (hv : v.pl) : 1 ≤ (spt Z v).w := by
  have W1 : 0 < rW Z v := Int.mul_pos (by omega) (by have := hv.2.2.2.2.1; omega)
  exact (pos_of_mul (rG_pos hw hv) (spt_raw Z v).2.2.2).2 W1
theorem third {n i j : Nat} (h : 3 ≤ n) : ∃ k, k < n ∧ j ≠ k ∧ i ≠ k := by
  by_cases h0 : i = 0 ∨ j = 0
  · by_cases h1 : i = 1 ∨ j = 1
    · exact ⟨2, by omega, by omega, by omega⟩
    · exact ⟨1, by omega, by omega, by omega⟩
  · exact ⟨0, by omega, by omega, by omega⟩
theorem SameB.fresh {L : Addr} {H H3 H' : Hp} (s0 : Same H H3) (h : H L = none) (s : SameB L H3 H') : Same H H' := fun b o hb => s b o (ne_of_none hb h) (s0 b o hb)--@@CUT
structure Tc (K : PySem.W.Frag) (mg : Str → Option Value) (t1 t2 : Tok) (cs : Nat → Addr) (S C : Addr) : Prop extends Tx K mg t1 t2 where
  m_ValueError : mg "ValueError" = none
  m_SightError : mg "SightError" = some (.ref S)
  m_NoBoard : mg "NoBoard" = some (.ref C)
  m_NoDeed : mg "NoDeed" = some (.ref (cs 0))
  m_NoFrame : mg "NoFrame" = some (.ref (cs 1))
  m_NoName : mg "NoName" = some (.ref (cs 2))
  m_NoNumber : mg "NoNumber" = some (.ref (cs 3))
  m_NoPlane : mg "NoPlane" = some (.ref (cs 4))
  m_NoSpot : mg "NoSpot" = some (.ref (cs 5))
  m_NoText : mg "NoText" = some (.ref (cs 6))
  m_NotFree : mg "NotFree" = some (.ref (cs 7))
  m_TooMany : mg "TooMany" = some (.ref (cs 8))
  x_NoBoard : Exc K C "ValueError" "ValueError.__new__" "ValueError.__init__" [.type "ValueError", .type "Exception", .type "BaseException", .type "object"]
  xc : XCls K C
  em : PySem.W.exmOne K (.ref C) (.ref S) = some true
  kF : PySem.W.kitOne K (.ref C) (.ref C) = some true
  kV : PySem.W.kitOne K (.ref C) (.type "ValueError") = some true
  kO : PySem.W.kitAny K (.ref C) (((List.range 9).map cs).map Value.ref) = some false
theorem Tc.r_NoBoard {cs : Nat → Addr} {S C : Addr} (_ : Tc K mg t1 t2 cs S C) : RelV (.ref C) (.ref C) := rfl
theorem Tc.r_NoDeed {cs : Nat → Addr} {S C : Addr} (_ : Tc K mg t1 t2 cs S C) : RelV (.ref (cs 0)) (.ref (cs 0)) := rfl
theorem Tc.r_NoFrame {cs : Nat → Addr} {S C : Addr} (_ : Tc K mg t1 t2 cs S C) : RelV (.ref (cs 1)) (.ref (cs 1)) := rfl
theorem Tc.r_NoName {cs : Nat → Addr} {S C : Addr} (_ : Tc K mg t1 t2 cs S C) : RelV (.ref (cs 2)) (.ref (cs 2)) := rfl
theorem Tc.r_NoNumber {cs : Nat → Addr} {S C : Addr} (_ : Tc K mg t1 t2 cs S C) : RelV (.ref (cs 3)) (.ref (cs 3)) := rfl
theorem Tc.r_NoPlane {cs : Nat → Addr} {S C : Addr} (_ : Tc K mg t1 t2 cs S C) : RelV (.ref (cs 4)) (.ref (cs 4)) := rfl
theorem Tc.r_NoSpot {cs : Nat → Addr} {S C : Addr} (_ : Tc K mg t1 t2 cs S C) : RelV (.ref (cs 5)) (.ref (cs 5)) := rfl
theorem Tc.r_NoText {cs : Nat → Addr} {S C : Addr} (_ : Tc K mg t1 t2 cs S C) : RelV (.ref (cs 6)) (.ref (cs 6)) := rfl
theorem Tc.r_NotFree {cs : Nat → Addr} {S C : Addr} (_ : Tc K mg t1 t2 cs S C) : RelV (.ref (cs 7)) (.ref (cs 7)) := rfl
theorem Tc.r_TooMany {cs : Nat → Addr} {S C : Addr} (_ : Tc K mg t1 t2 cs S C) : RelV (.ref (cs 8)) (.ref (cs 8)) := rfl
def spCvxB : Sp := fun vs H Q _ => ∃ (l : Addr) (k : Int) (rs : List Addr) (ps : List Pt), vs = [.ref l, .int k] ∧ Cor H l rs ps ∧ 3 ≤ ps.length ∧ ps.length ≤ 8 ∧ 0 ≤ k ∧ k ≤ 2 ∧ ((Rnd k ps ∧ ∀ H' : Hp, Same H H' → Q (.bl true) H') ∨ (¬ Rnd k ps ∧ ∀ H' : Hp, Same H H' → Q (.bl false) H'))
inductive Bad (ps : List Pt) : Prop
  | few (h : ps.length < 3) : Bad ps
  | many (h : 8 < ps.length) : Bad ps
  | line (n3 : 3 ≤ ps.length) (n8 : ps.length ≤ 8) (h : noArrow (pt ps 0) (pt ps 1) (pt ps 2)) : Bad ps
  | off (n3 : 3 ≤ ps.length) (n8 : ps.length ≤ 8) (i : Nat) (hi : i < ps.length) (h : hgt (minor 0 (pt ps 0) (pt ps 1) (pt ps 2)) (-minor 1 (pt ps 0) (pt ps 1) (pt ps 2)) (minor 2 (pt ps 0) (pt ps 1) (pt ps 2)) (minor 3 (pt ps 0) (pt ps 1) (pt ps 2)) (pt ps i) ≠ 0) : Bad ps
  | bent (n3 : 3 ≤ ps.length) (n8 : ps.length ≤ 8) (h : ∀ k : Int, 0 ≤ k → k ≤ 2 → minor k (pt ps 0) (pt ps 1) (pt ps 2) ≠ 0 → ¬ Rnd k ps) : Bad ps
def spBoardX (C : Addr) : Sp := fun vs H Q E => ∃ (l : Addr) (rs : List Addr) (ps : List Pt), vs = [.ref l] ∧ Cor H l rs ps ∧ ((Brd ps ∧ ∀ (t : Addr) (H' : Hp), Same H H' → H' t = some (.tup ((frm ps rs).map V.ref)) → Q (.ref t) H') ∨ (Bad ps ∧ ∀ H' : Hp, Same H H' → E (.ref C) none H'))
theorem pln_conv {a b c d x y z w : Int} (h : pln [a, b, c, d] = [x, y, z, w]) {p : Pt} (hp : hgt x y z w p = 0) : hgt a b c d p = 0 := by
  have ea := Int.ediv_mul_cancel (gl_dvd (ns := [a, b, c, d]) (n := a) (by simp))
  have eb := Int.ediv_mul_cancel (gl_dvd (ns := [a, b, c, d]) (n := b) (by simp))
  have ec := Int.ediv_mul_cancel (gl_dvd (ns := [a, b, c, d]) (n := c) (by simp))
  have ed := Int.ediv_mul_cancel (gl_dvd (ns := [a, b, c, d]) (n := d) (by simp))
  have el : low [a, b, c, d] = [a / gl [a, b, c, d], b / gl [a, b, c, d], c / gl [a, b, c, d], d / gl [a, b, c, d]] := rfl
  unfold pln at h
  rw [el] at h
  generalize gl [a, b, c, d] = g at ea eb ec ed h
  generalize a / g = x' at ea h
  generalize b / g = y' at eb h
  generalize c / g = z' at ec h
  generalize d / g = w' at ed h
  have h : (if plb x' y' z' = true then [x', y', z', w'] else [-x', -y', -z', -w']) = [x, y, z, w] := h
  have k : hgt a b c d p = hgt x' y' z' w' p * g := by
    rw [← ea, ← eb, ← ec, ← ed]
    unfold hgt
    grind
  rw [k]
  split at h
  · cases h
    rw [hp, Int.zero_mul]
  · cases h
    have e2 : hgt (-x') (-y') (-z') (-w') p = -hgt x' y' z' w' p := by
      unfold hgt
      grind
    rw [e2] at hp
    have : hgt x' y' z' w' p = 0 := by omega
    rw [this, Int.zero_mul]
theorem sgn_zero {n : Int} (h : sgn n = 0) : n = 0 := by
  unfold sgn at h
  split at h
  · cases h
  · split at h
    · cases h
    · omega
theorem ok_cvxB (T : Tx K mg t1 t2) (F : At K mg "is_convex" s_is_convex ["corners", "axis"] []) (d_side_of_edge : DefOk P w K mg base CX0 4 "side_of_edge" ["edge", "spot", "axis"] [] spEdge) : DefOk P w K mg base CX0 5 "is_convex" ["corners", "axis"] [] spCvxB := by
  refine F.ok sc_is_convex (fun vs H Q E h => ?_) (fun f cdv A outer s H vs Q E hr h => ?_)
  · obtain ⟨l, k, rs, ps, rfl, _⟩ := h
    rfl
  obtain ⟨l, k, rs, ps, rfl, hc, n3, n8, k0, k2, q⟩ := h
  have S := sc_is_convex
  refine ⟨_, (pss_cons (ps_set (i := 2) S.nd rfl (Or.inl rfl) (pe_callD d_side_of_edge (hr.mono (by decide)) rfl pass0 (pa_cons (pe_tup (pa_cons (pe_ix ix_list (pv 0) pe_int (fun _ _ => rfl)) (pa_cons (pe_ix ix_list (pv 0) pe_int (fun _ _ => rfl)) pa_nil se_sub) se_sub)) (pa_cons (pe_ix ix_list (pv 0) pe_int (fun _ _ => rfl)) (pa_cons (pv 1) pa_nil se_nam) se_sub) se_tup)))
    (pss_cons (ps_set (i := 3) S.nd rfl (Or.inl rfl) (pe_callB call_len_seq rfl T.m_len PySem.boot_len (pa_cons (pv 0) pa_nil se_nam)))
    (pss_cons (ps_for PassesOwn.never rfl (pi_range1 rfl T.m_range (pa_cons (pv 3) pa_nil se_nam)) (pg_name (i := 4) S.nd rfl (Or.inl rfl))
    (pss_cons (ps_set (i := 5) S.nd rfl (Or.inl rfl) (pe_tup (pa_cons (pe_ix ix_list (pv 0) (pe_op op_sub (pv 4) pe_int) (fun _ _ => rfl)) (pa_cons (pe_ix ix_list (pv 0) (pv 4) (fun _ _ => rfl)) pa_nil se_sub) se_sub)))
    (pss_one (ps_for PassesOwn.never rfl (pi_range2 rfl T.m_range (pa_cons pe_int (pa_cons (pe_op op_sub (pv 3) pe_int) pa_nil se_bin) se_con)) (pg_name (i := 6) S.nd rfl (Or.inl rfl))
    (pss_one (ps_if (pt_cmpR op_ne (pe_callD d_side_of_edge (hr.mono (by decide)) rfl pass0 (pa_cons (pv 5) (pa_cons (pe_ix ix_list (pv 0) (pe_op op_mod (pe_op op_add (pv 4) (pv 6)) (pv 3)) (fun _ _ => rfl)) (pa_cons (pv 1) pa_nil se_nam) se_sub) se_nam)) (pv 2) (nomark _))
    (pss_one (ps_ret pe_bl))
    pss_nil))))))
    (pss_one (ps_ret pe_bl))))), ?_⟩
  have ln := hc.2.len
  have lm : (rs.map V.ref).length = ps.length := by rw [List.length_map, ln]
  have kl : SqL K H l (rs.map V.ref) := SqL.of hc.1
  obtain ⟨a1, a2⟩ := hc.2.get (i := 0) (by omega)
  obtain ⟨a3, a4⟩ := hc.2.get (i := 1) (by omega)
  obtain ⟨a5, a6⟩ := hc.2.get (i := 2) (by omega)
  walk_at "rf"
  refine ixL kl (atI_nat (j := 0) a1) (ixL kl (atI_nat (j := 1) a3) ⟨by decide, fun g hg => ?_⟩)
  have s1 := Same.new hg (.tup [.ref (ad rs 0), .ref (ad rs 1)])
  have e1 : upd H g (.tup [.ref (ad rs 0), .ref (ad rs 1)]) g = some (.tup [.ref (ad rs 0), .ref (ad rs 1)]) := upd_same
  generalize upd H g (.tup [.ref (ad rs 0), .ref (ad rs 1)]) = H1 at s1 e1 ⊢
  refine ixL (s1.seq kl) (atI_nat (j := 2) a5) ?_
  refine ⟨g, _, _, _, k, _, _, _, rfl, e1, a2.keep s1, a4.keep s1, a6.keep s1, k0, by omega, fun H2 s2 => ?_⟩
  have s12 := s1.trans s2
  have kl2 := s12.seq kl
  walk_at "rf"
  refine ⟨_, .inl kl2, ?_⟩
  rw [lm]
  refine ⟨by omega, by omega, ?_⟩
  refine for_range (lo := 0) (n := _) (fun i σ H3 => Same H H3 ∧ (∀ i' j', i' < i → 1 ≤ j' → j' < ps.length - 1 → sgn (minor k (pt ps ((i' + (ps.length - 1)) % ps.length)) (pt ps i') (pt ps ((i' + j') % ps.length))) = sgn (minor k (pt ps 0) (pt ps 1) (pt ps 2))) ∧ ∃ o4 o5 o6 : Option V, σ = [some (.ref l), some (.int k), some (.int (sgn (minor k (pt ps 0) (pt ps 1) (pt ps 2)))), some (.int (ps.length : Nat)), o4, o5, o6]) ⟨s12, fun i' j' h => absurd h (Nat.not_lt_zero _), none, none, none, rfl⟩ ?_ ?_
  · rintro i σ H3 hi ⟨s3, al, o4, o5, o6, rfl⟩
    have hi2 : i < ps.length := by simpa using hi
    have kl3 := s3.seq kl
    have sp3 := hc.2.keep s3.t
    obtain ⟨b1, b2⟩ := sp3.get hi2
    have hm : (i + (ps.length - 1)) % ps.length < ps.length := Nat.mod_lt _ (by omega)
    obtain ⟨b3, b4⟩ := sp3.get hm
    have ep := atI_pred sp3 hi2
    have z0 : (0 : Int) + (i : Int) = (i : Int) := Int.zero_add _
    rw [z0]
    walk_at "rf"
    refine ixL kl3 ep (ixL kl3 (atI_nat b1) ⟨by decide, fun g3 hg3 => ?_⟩)
    have s4 := Same.new hg3 (.tup [.ref (ad rs ((i + (ps.length - 1)) % ps.length)), .ref (ad rs i)])
    have e4 : upd H3 g3 (.tup [.ref (ad rs ((i + (ps.length - 1)) % ps.length)), .ref (ad rs i)]) g3 = some (.tup [.ref (ad rs ((i + (ps.length - 1)) % ps.length)), .ref (ad rs i)]) := upd_same
    generalize upd H3 g3 (.tup [.ref (ad rs ((i + (ps.length - 1)) % ps.length)), .ref (ad rs i)]) = H4 at s4 e4 ⊢
    refine ⟨by decide, by decide, by omega, by omega, ?_⟩
    refine for_range (lo := 1) (n := _) (fun j σ H5 => Same H4 H5 ∧ (∀ j', j' < j → sgn (minor k (pt ps ((i + (ps.length - 1)) % ps.length)) (pt ps i) (pt ps ((i + (j' + 1)) % ps.length))) = sgn (minor k (pt ps 0) (pt ps 1) (pt ps 2))) ∧ ∃ o6 : Option V, σ = [some (.ref l), some (.int k), some (.int (sgn (minor k (pt ps 0) (pt ps 1) (pt ps 2)))), some (.int (ps.length : Nat)), some (.int (i : Int)), some (.ref g3), o6]) ⟨Same.refl _, fun j' h => absurd h (Nat.not_lt_zero _), _, rfl⟩ ?_ ?_
    · rintro j σ H5 hj ⟨s5, al5, o6, rfl⟩
      have hj2 : j + 1 < ps.length - 1 := by omega
      have s35 := s4.trans s5
      have s05 := s3.trans s35
      have sp5 := hc.2.keep s05.t
      have hm2 : (i + (j + 1)) % ps.length < ps.length := Nat.mod_lt _ (by omega)
      obtain ⟨c1, c2⟩ := sp5.get hm2
      have ez : ((i : Int) + (1 + (j : Int))) % ((ps.length : Nat) : Int) = (((i + (j + 1)) % ps.length : Nat) : Int) := by
        rw [Int.natCast_emod]
        congr 1
        omega
      walk_at "rf"
      rw [ez]
      refine ⟨by omega, ixL (s05.seq kl) (atI_nat c1) ?_⟩
      refine ⟨g3, _, _, _, k, _, _, _, rfl, s5 _ _ e4, b4.keep s35, b2.keep s35, c2, k0, by omega, fun H6 s6 => ?_⟩
      try walk_at "rf"
      refine ite2 (fun ce => ?_) fun ce => ?_
      · refine ⟨s5.trans s6, fun j' hj' => ?_, _, rfl⟩
        by_cases cj : j' < j
        · exact al5 j' cj
        · have ej : j' = j := by omega
          rw [ej]
          exact ce
      · rcases q with ⟨rn, q⟩ | ⟨nr, q⟩
        · exact absurd (rn i (j + 1) hi2 (by omega) hj2) ce
        · exact q _ (s05.trans s6)
    · rintro σ H5 ⟨s5, al5, o6, rfl⟩
      refine ⟨s3.trans (s4.trans s5), fun i' j' hi' j1 j2 => ?_, _, _, _, rfl⟩
      by_cases ci : i' < i
      · exact al i' j' ci j1 j2
      · have ei : i' = i := by omega
        subst ei
        have z := al5 (j' - 1) (by omega)
        rw [show j' - 1 + 1 = j' by omega] at z
        exact z
  · rintro σ H3 ⟨s3, al, o4, o5, o6, rfl⟩
    rcases q with ⟨_, q⟩ | ⟨nr, q⟩
    · exact q _ s3
    · exact absurd (fun i j hi j1 j2 => al i j (by simpa using hi) j1 j2) nr
theorem ok_boardX {cs : Nat → Addr} {SE C : Addr} (T : Tc K mg t1 t2 cs SE C) (F : At K mg "made_board" s_made_board ["corners"] []) (d_in_line : DefOk P w K mg base CX0 4 "in_line" ["one", "other", "third"] [] spLine) (d_plane_through : DefOk P w K mg base CX0 5 "plane_through" ["one", "other", "third"] [] spThrough) (d_side_of : DefOk P w K mg base CX0 2 "side_of" ["plane", "spot"] [] spSide) (d_flat_axis : DefOk P w K mg base CX0 1 "flat_axis" ["plane"] [] spAxis) (d_is_convex : DefOk P w K mg base CX0 5 "is_convex" ["corners", "axis"] [] spCvxB) (d_formed : DefOk P w K mg base CX0 2 "formed" ["corners"] [] spFormed) : DefOk P w K mg base (XOk P w) 6 "made_board" ["corners"] [] (spBoardX C) := by
  refine F.okX sc_made_board (fun vs H Q E h => ?_) (fun f cdv A outer s H vs Q E hr h => ?_)
  · obtain ⟨l, rs, ps, rfl, _⟩ := h
    rfl
  obtain ⟨l, rs, ps, rfl, hc, hq⟩ := h
  have S := sc_made_board
  refine ⟨_, (pss_cons (ps_if (PW.pt (pw_or (pt_cmpR op_lt (pe_callB call_len_seq rfl T.m_len PySem.boot_len (pa_cons (pv 0) pa_nil se_nam)) pe_int (nomark _)) (pw_or1 (pt_cmpR op_gt (pe_callB call_len_seq rfl T.m_len PySem.boot_len (pa_cons (pv 0) pa_nil se_nam)) (pe_glob rfl T.m_MOST_CORNERS T.r_MOST_CORNERS) (nomark _)))))
    (pss_one (ps_raise rfl rfl T.m_NoBoard T.x_NoBoard (pa_cons pe_str pa_nil se_con) raises1))
    pss_nil)
    (pss_cons (ps_if (pt_val (pe_callD d_in_line (hr.mono (by decide)) rfl pass0 (pa_cons (pe_ix ix_list (pv 0) pe_int (fun _ _ => rfl)) (pa_cons (pe_ix ix_list (pv 0) pe_int (fun _ _ => rfl)) (pa_cons (pe_ix ix_list (pv 0) pe_int (fun _ _ => rfl)) pa_nil se_sub) se_sub) se_sub)))
    (pss_one (ps_raise rfl rfl T.m_NoBoard T.x_NoBoard (pa_cons pe_str pa_nil se_con) raises1))
    pss_nil)
    (pss_cons (ps_set (i := 1) S.nd rfl (Or.inl rfl) (pe_callD d_plane_through (hr.mono (by decide)) rfl pass0 (pa_cons (pe_ix ix_list (pv 0) pe_int (fun _ _ => rfl)) (pa_cons (pe_ix ix_list (pv 0) pe_int (fun _ _ => rfl)) (pa_cons (pe_ix ix_list (pv 0) pe_int (fun _ _ => rfl)) pa_nil se_sub) se_sub) se_sub)))
    (pss_cons (ps_for PassesOwn.leaving rfl (pi_list (pv 0)) (pg_name (i := 2) S.nd rfl (Or.inl rfl))
    (pss_one (ps_if (pt_cmpR op_ne (pe_callD d_side_of (hr.mono (by decide)) rfl pass0 (pa_cons (pv 1) (pa_cons (pv 2) pa_nil se_nam) se_nam)) pe_int (nomark _))
    (pss_one (ps_raise rfl rfl T.m_NoBoard T.x_NoBoard (pa_cons pe_str pa_nil se_con) raises1))
    pss_nil)))
    (pss_cons (ps_if (pt_not (pt_val (pe_callD d_is_convex (hr.mono (by decide)) rfl pass0 (pa_cons (pv 0) (pa_cons (pe_callD d_flat_axis (hr.mono (by decide)) rfl pass0 (pa_cons (pv 1) pa_nil se_nam)) pa_nil se_cal) se_nam))))
    (pss_one (ps_raise rfl rfl T.m_NoBoard T.x_NoBoard (pa_cons pe_str pa_nil se_con) raises1))
    pss_nil)
    (pss_one (ps_ret (pe_callD d_formed (hr.mono (by decide)) rfl pass0 (pa_cons (pv 0) pa_nil se_nam))))))))), ?_⟩
  have ln := hc.2.len
  have lm : (rs.map V.ref).length = ps.length := by rw [List.length_map, ln]
  have kl : SqL K H l (rs.map V.ref) := SqL.of hc.1
  rcases hq with ⟨B, q⟩ | ⟨B, q⟩
  · have n3 := B.n3
    have n8 := B.n8
    obtain ⟨a1, a2⟩ := hc.2.get (i := 0) (by omega)
    obtain ⟨a3, a4⟩ := hc.2.get (i := 1) (by omega)
    obtain ⟨a5, a6⟩ := hc.2.get (i := 2) (by omega)
    obtain ⟨m0, m1, m2, m3⟩ := minor_sm a2.2 a4.2 a6.2
    obtain ⟨x, y, z, v, ep, sx, sy, sz, sv, g1', pb, hz⟩ := pln_facts (a := minor 0 (pt ps 0) (pt ps 1) (pt ps 2)) (b := -minor 1 (pt ps 0) (pt ps 1) (pt ps 2)) (c := minor 2 (pt ps 0) (pt ps 1) (pt ps 2)) (d := minor 3 (pt ps 0) (pt ps 1) (pt ps 2)) (fun z => B.na ⟨z.1, by omega, z.2.2⟩) m0 m1.neg m2 m3
    obtain ⟨nx, ny, nz⟩ := pln_nz ep
    have er : rgh (pt ps 0) (pt ps 1) (pt ps 2) = [minor 0 (pt ps 0) (pt ps 1) (pt ps 2), -minor 1 (pt ps 0) (pt ps 1) (pt ps 2), minor 2 (pt ps 0) (pt ps 1) (pt ps 2), minor 3 (pt ps 0) (pt ps 1) (pt ps 2)] := rfl
    try walk_at "rf"
    refine ⟨_, .inl kl, ?_⟩
    rw [lm, if_neg (by omega)]
    refine ⟨_, .inl kl, ?_⟩
    rw [lm, if_neg (by omega)]
    refine ixL kl (atI_nat (j := 0) a1) (ixL kl (atI_nat (j := 1) a3) (ixL kl (atI_nat (j := 2) a5) ?_))
    refine ⟨_, _, _, _, _, _, rfl, a2, a4, a6, fun H1 s1 => ?_⟩
    rw [inl_na B.na]
    have kl1 := s1.seq kl
    walk_at "rf"
    refine ixL kl1 (atI_nat (j := 0) a1) (ixL kl1 (atI_nat (j := 1) a3) (ixL kl1 (atI_nat (j := 2) a5) ?_))
    refine ⟨_, _, _, _, _, _, rfl, a2.keep s1, a4.keep s1, a6.keep s1, B.na, fun g H2 s2 e2 => ?_⟩
    rw [er, ep] at e2
    have s12 := s1.trans s2
    have kl2 := s12.seq kl
    try walk_at "rf"
    refine ⟨⟨_, kl2⟩, ?_⟩
    refine for_list (K := K) (a := l) (xs := rs.map V.ref) (fun i σ H3 => H3 = H2 ∧ ∃ o2 : Option V, σ = [some (.ref l), some (.ref g), o2]) ⟨rfl, none, rfl⟩ (fun i σ H3 _ ⟨h, _⟩ => by rw [h]; exact kl2) ?_ ?_
    · rintro i r σ H3 hi ⟨rfl, o2, rfl⟩
      have hlt : i < ps.length := by
        have := (List.getElem?_eq_some_iff.mp hi).1
        omega
      obtain ⟨b1, b2⟩ := (hc.2.keep s12.t).get hlt
      rw [b1] at hi
      cases hi
      walk_at "rf"
      refine ⟨g, _, x, y, z, v, _, rfl, e2, sx, sy, sz, sv, b2, ?_⟩
      rw [hz _ (B.flat i hlt)]
      walk_at "rf"
      rw [if_pos sgn0]
      exact ⟨_, rfl⟩
    · rintro σ H3 ⟨rfl, o2, rfl⟩
      walk_at "rf"
      refine ⟨g, x, y, z, v, rfl, e2, plb_nz pb, fun k hk => ?_⟩
      have kk : 0 ≤ k ∧ k ≤ 2 ∧ minor k (pt ps 0) (pt ps 1) (pt ps 2) ≠ 0 := by
        rcases hk with ⟨rfl, h⟩ | ⟨rfl, _, h⟩ | ⟨rfl, _, _, h⟩
        · exact ⟨by decide, by decide, nx h⟩
        · exact ⟨by decide, by decide, fun e => ny h (by omega)⟩
        · exact ⟨by decide, by decide, nz h⟩
      refine ⟨l, k, rs, ps, rfl, hc.keep s12, n3, n8, kk.1, kk.2.1, .inl ⟨B.rnd k kk.1 kk.2.1 kk.2.2, fun H4 s4 => ?_⟩⟩
      walk_at "rf"
      refine ⟨l, rs, ps, rfl, hc.keep (s12.trans s4), n3, n8, fun t H5 s5 e5 => ?_⟩
      exact q t H5 (s12.trans (s4.trans s5)) e5
  · try walk_at "rf"
    refine ⟨_, .inl kl, ?_⟩
    rw [lm]
    refine ite2 (fun c1 => ⟨by decide, q _ (Same.refl _)⟩) fun c1 => ?_
    refine ⟨_, .inl kl, ?_⟩
    rw [lm]
    refine ite2 (fun c2 => ⟨by decide, q _ (Same.refl _)⟩) fun c2 => ?_
    have n3 : 3 ≤ ps.length := by omega
    have n8 : ps.length ≤ 8 := by omega
    obtain ⟨a1, a2⟩ := hc.2.get (i := 0) (by omega)
    obtain ⟨a3, a4⟩ := hc.2.get (i := 1) (by omega)
    obtain ⟨a5, a6⟩ := hc.2.get (i := 2) (by omega)
    obtain ⟨m0, m1, m2, m3⟩ := minor_sm a2.2 a4.2 a6.2
    refine ixL kl (atI_nat (j := 0) a1) (ixL kl (atI_nat (j := 1) a3) (ixL kl (atI_nat (j := 2) a5) ?_))
    refine ⟨_, _, _, _, _, _, rfl, a2, a4, a6, fun H1 s1 => ⟨_, rfl, ite2 (fun cl => ⟨by decide, q _ s1⟩) fun cl => ?_⟩⟩
    have na : ¬ noArrow (pt ps 0) (pt ps 1) (pt ps 2) := fun z => cl (decide_eq_true z)
    obtain ⟨x, y, z, v, ep, sx, sy, sz, sv, g1', pb, hz⟩ := pln_facts (a := minor 0 (pt ps 0) (pt ps 1) (pt ps 2)) (b := -minor 1 (pt ps 0) (pt ps 1) (pt ps 2)) (c := minor 2 (pt ps 0) (pt ps 1) (pt ps 2)) (d := minor 3 (pt ps 0) (pt ps 1) (pt ps 2)) (fun z => na ⟨z.1, by omega, z.2.2⟩) m0 m1.neg m2 m3
    obtain ⟨nx, ny, nz⟩ := pln_nz ep
    have er : rgh (pt ps 0) (pt ps 1) (pt ps 2) = [minor 0 (pt ps 0) (pt ps 1) (pt ps 2), -minor 1 (pt ps 0) (pt ps 1) (pt ps 2), minor 2 (pt ps 0) (pt ps 1) (pt ps 2), minor 3 (pt ps 0) (pt ps 1) (pt ps 2)] := rfl
    have kl1 := s1.seq kl
    refine ixL kl1 (atI_nat (j := 0) a1) (ixL kl1 (atI_nat (j := 1) a3) (ixL kl1 (atI_nat (j := 2) a5) ?_))
    refine ⟨_, _, _, _, _, _, rfl, a2.keep s1, a4.keep s1, a6.keep s1, na, fun g H2 s2 e2 => ?_⟩
    rw [er, ep] at e2
    have s12 := s1.trans s2
    have kl2 := s12.seq kl
    refine ⟨⟨_, kl2⟩, ?_⟩
    refine for_list (K := K) (a := l) (xs := rs.map V.ref) (fun i σ H3 => H3 = H2 ∧ (∀ i', i' < i → hgt (minor 0 (pt ps 0) (pt ps 1) (pt ps 2)) (-minor 1 (pt ps 0) (pt ps 1) (pt ps 2)) (minor 2 (pt ps 0) (pt ps 1) (pt ps 2)) (minor 3 (pt ps 0) (pt ps 1) (pt ps 2)) (pt ps i') = 0) ∧ ∃ o2 : Option V, σ = [some (.ref l), some (.ref g), o2]) ⟨rfl, fun i' h => absurd h (Nat.not_lt_zero _), none, rfl⟩ (fun i σ H3 _ ⟨h, _⟩ => by rw [h]; exact kl2) ?_ ?_
    · rintro i r σ H3 hi ⟨rfl, al, o2, rfl⟩
      have hlt : i < ps.length := by
        have := (List.getElem?_eq_some_iff.mp hi).1
        omega
      obtain ⟨b1, b2⟩ := (hc.2.keep s12.t).get hlt
      rw [b1] at hi
      cases hi
      try walk_at "rf"
      refine ⟨g, _, x, y, z, v, _, rfl, e2, sx, sy, sz, sv, b2, ?_⟩
      try walk_at "rf"
      refine ite2 (fun c0 => ?_) fun c0 => ⟨by decide, q _ s12⟩
      refine ⟨fun i' hi' => ?_, _, rfl⟩
      by_cases ci : i' < i
      · exact al i' ci
      · have ei : i' = i := by omega
        rw [ei]
        exact pln_conv ep (sgn_zero c0)
    · rintro σ H3 ⟨rfl, al, o2, rfl⟩
      try walk_at "rf"
      refine ⟨g, x, y, z, v, rfl, e2, plb_nz pb, fun k hk => ?_⟩
      have kk : 0 ≤ k ∧ k ≤ 2 ∧ minor k (pt ps 0) (pt ps 1) (pt ps 2) ≠ 0 := by
        rcases hk with ⟨rfl, h⟩ | ⟨rfl, _, h⟩ | ⟨rfl, _, _, h⟩
        · exact ⟨by decide, by decide, nx h⟩
        · exact ⟨by decide, by decide, fun e => ny h (by omega)⟩
        · exact ⟨by decide, by decide, nz h⟩
      have nr : ¬ Rnd k ps := by
        cases B with
        | few h => omega
        | many h => omega
        | line _ _ h => exact absurd h na
        | off _ _ i hi h => exact absurd (al i (by rw [lm]; exact hi)) h
        | bent _ _ h => exact h k kk.1 kk.2.1 kk.2.2
      refine ⟨l, k, rs, ps, rfl, hc.keep s12, n3, n8, kk.1, kk.2.1, .inr ⟨nr, fun H4 s4 => ?_⟩⟩
      try walk_at "rf"
      exact ⟨by decide, q _ (s12.trans s4)⟩
def H4 (a b c d : Pt) : Int := hgt (minor 0 a b c) (-minor 1 a b c) (minor 2 a b c) (minor 3 a b c) d
theorem H4_03 (a b c d : Pt) : H4 d b c a = -H4 a b c d := by
  unfold H4 hgt
  rw [minor0, minor1, minor2, minor3, minor0, minor1, minor2, minor3]
  unfold det3
  grind
theorem H4_13 (a b c d : Pt) : H4 a d c b = -H4 a b c d := by
  unfold H4 hgt
  rw [minor0, minor1, minor2, minor3, minor0, minor1, minor2, minor3]
  unfold det3
  grind
theorem H4_23 (a b c d : Pt) : H4 a b d c = -H4 a b c d := by
  unfold H4 hgt
  rw [minor0, minor1, minor2, minor3, minor0, minor1, minor2, minor3]
  unfold det3
  grind
def lft (Z : Sht) (p : Pt) : List Int := [p.x + p.w * Z.u.x, p.y + p.w * Z.u.y, p.z + p.w * Z.u.z, p.w]
def lftP (Z : Sht) (p : Pt) : Pt := ⟨(p.x + p.w * Z.u.x) / gl (lft Z p), (p.y + p.w * Z.u.y) / gl (lft Z p), (p.z + p.w * Z.u.z) / gl (lft Z p), p.w / gl (lft Z p)⟩
theorem sgn_mul (a b : Int) : sgn (a * b) = sgn a * sgn b := by
  unfold sgn
  rcases Int.lt_trichotomy a 0 with ha | ha | ha <;> rcases Int.lt_trichotomy b 0 with hb | hb | hb
  · have := Int.mul_pos_of_neg_of_neg ha hb
    rw [if_pos this, if_neg (by omega), if_pos ha, if_neg (by omega), if_pos hb]; rfl
  · subst hb; simp
  · have := Int.mul_neg_of_neg_of_pos ha hb
    rw [if_neg (by omega), if_pos this, if_neg (by omega), if_pos ha, if_pos hb]; rfl
  · subst ha; simp
  · subst ha; simp
  · subst ha; simp
  · have := Int.mul_neg_of_pos_of_neg ha hb
    rw [if_neg (by omega), if_pos this, if_pos ha, if_neg (by omega), if_pos hb]; rfl
  · subst hb; simp
  · have := Int.mul_pos ha hb
    rw [if_pos this, if_pos ha, if_pos hb]; rfl
theorem sgn_min {Z : Sht} {a b c : Tri} {k : Int} (hw : 1 ≤ Z.w) (ha : a.pl) (hb : b.pl) (hc : c.pl) (k0 : 0 ≤ k) (k2 : k ≤ 2) : sgn (minor k (spt Z a) (spt Z b) (spt Z c)) = sgn (uk Z k) * sgn (dt a b c) := by
  have gp := Int.mul_pos (Int.mul_pos (rG_pos hw ha) (rG_pos hw hb)) (rG_pos hw hc)
  have wd := w3_pos hw
  rw [← sgn_mul]
  have e : k = 0 ∨ k = 1 ∨ k = 2 := by omega
  rcases e with rfl | rfl | rfl
  · refine sgn_sh gp wd ?_
    rw [m0_raw]
    show _ = w3 Z * (Z.u.x * dt a b c)
    grind
  · refine sgn_sh gp wd ?_
    have z := m1_raw Z a b c
    show _ = w3 Z * (-Z.u.y * dt a b c)
    grind
  · refine sgn_sh gp wd ?_
    rw [m2_raw]
    show _ = w3 Z * (Z.u.z * dt a b c)
    grind
theorem no_arrow {Z : Sht} {a b c : Tri} (hw : 1 ≤ Z.w) (ha : a.pl) (hb : b.pl) (hc : c.pl) (hd : dt a b c = 0) : noArrow (spt Z a) (spt Z b) (spt Z c) := by
  have k : ∀ k : Int, 0 ≤ k → k ≤ 2 → minor k (spt Z a) (spt Z b) (spt Z c) = 0 := fun k k0 k2 => by
    have z := sgn_min hw ha hb hc k0 k2
    rw [hd, sgn0, Int.mul_zero] at z
    exact sgn_zero z
  exact ⟨k 0 (by decide) (by decide), k 1 (by decide) (by decide), k 2 (by decide) (by decide)⟩
theorem al1 {A0 A1 A2 A3 px py pz pw ux uy uz : Int} (f : A0 * px + A1 * py + A2 * pz - A3 * pw = 0) (k : A0 * (px + pw * ux) + A1 * (py + pw * uy) + A2 * (pz + pw * uz) - A3 * pw = 0) : pw * (A0 * ux + A1 * uy + A2 * uz) = 0 := by grind
theorem al2 {A0 A1 A2 G' W dd ux uy uz : Int} (m0 : A0 * G' = W * ux * dd) (m1 : A1 * G' = W * uy * dd) (m2 : A2 * G' = W * uz * dd) : (A0 * ux + A1 * uy + A2 * uz) * G' = W * dd * (ux * ux + uy * uy + uz * uz) := by
  have : (A0 * ux + A1 * uy + A2 * uz) * G' = (A0 * G') * ux + (A1 * G') * uy + (A2 * G') * uz := by grind
  rw [this, m0, m1, m2]
  grind
theorem al3 {A0 A1 A2 A3 g lx ly lz lw : Int} : A0 * (g * lx) + A1 * (g * ly) + A2 * (g * lz) - A3 * (g * lw) = g * (A0 * lx + A1 * ly + A2 * lz - A3 * lw) := by grind
theorem off_one {Z : Sht} {a b c v : Tri} (hw : 1 ≤ Z.w) (nz : Z.u.nz) (ha : a.pl) (hb : b.pl) (hc : c.pl) (hv : v.pl) (w1 : 1 ≤ (spt Z v).w) (hd : dt a b c ≠ 0) : H4 (spt Z a) (spt Z b) (spt Z c) (lftP Z (spt Z v)) ≠ 0 := fun h0 => by
  have f := flat_spt hw ha hb hc hv
  have gp := Int.mul_pos (Int.mul_pos (rG_pos hw ha) (rG_pos hw hb)) (rG_pos hw hc)
  have m0 := m0_raw Z a b c
  have m1 := m1_raw Z a b c
  have m2 := m2_raw Z a b c
  have w3p := w3_pos hw
  have dv : ∀ n ∈ lft Z (spt Z v), gl (lft Z (spt Z v)) * (n / gl (lft Z (spt Z v))) = n := fun n hn => Int.mul_ediv_cancel' (gl_dvd hn)
  have d1 := dv ((spt Z v).x + (spt Z v).w * Z.u.x) (by simp [lft])
  have d2 := dv ((spt Z v).y + (spt Z v).w * Z.u.y) (by simp [lft])
  have d3 := dv ((spt Z v).z + (spt Z v).w * Z.u.z) (by simp [lft])
  have d4 := dv (spt Z v).w (by simp [lft])
  unfold H4 lftP at h0
  unfold hgt at h0 f
  simp only at h0
  generalize gl (lft Z (spt Z v)) = g at d1 d2 d3 d4 h0
  generalize ((spt Z v).x + (spt Z v).w * Z.u.x) / g = lx at d1 h0
  generalize ((spt Z v).y + (spt Z v).w * Z.u.y) / g = ly at d2 h0
  generalize ((spt Z v).z + (spt Z v).w * Z.u.z) / g = lz at d3 h0
  generalize (spt Z v).w / g = lw at d4 h0
  generalize (spt Z v).x = px at *
  generalize (spt Z v).y = py at *
  generalize (spt Z v).z = pz at *
  generalize (spt Z v).w = pw at *
  generalize minor 0 (spt Z a) (spt Z b) (spt Z c) = A0 at *
  generalize minor 1 (spt Z a) (spt Z b) (spt Z c) = A1 at *
  generalize minor 2 (spt Z a) (spt Z b) (spt Z c) = A2 at *
  generalize minor 3 (spt Z a) (spt Z b) (spt Z c) = A3 at *
  generalize rG Z a * rG Z b * rG Z c = G' at *
  generalize w3 Z = W at *
  generalize dt a b c = dd at *
  have e1 : pw * (A0 * Z.u.x + -A1 * Z.u.y + A2 * Z.u.z) = 0 := by
    have this := al3 (A0 := A0) (A1 := -A1) (A2 := A2) (A3 := A3) (g := g) (lx := lx) (ly := ly) (lz := lz) (lw := lw)
    rw [h0, Int.mul_zero, d1, d2, d3, d4] at this
    exact al1 f this
  have e2 : A0 * Z.u.x + -A1 * Z.u.y + A2 * Z.u.z = 0 := by
    rcases Int.mul_eq_zero.mp e1 with h | h
    · omega
    · exact h
  have e3 : W * dd * (Z.u.x * Z.u.x + Z.u.y * Z.u.y + Z.u.z * Z.u.z) = 0 := by
    have := al2 m0 m1 m2
    rw [← this, e2, Int.zero_mul]
  rcases Int.mul_eq_zero.mp e3 with h | h
  · rcases Int.mul_eq_zero.mp h with h | h
    · omega
    · exact hd h
  · have sq : ∀ n : Int, 0 ≤ n * n := fun n => by
      rcases Int.le_total 0 n with k | k
      · exact Int.mul_nonneg k k
      · have := Int.mul_nonneg (show 0 ≤ -n by omega) (show 0 ≤ -n by omega)
        rw [Int.neg_mul_neg] at this
        exact this
    have q1 := sq Z.u.x
    have q2 := sq Z.u.y
    have q3 := sq Z.u.z
    have z : ∀ n : Int, n * n = 0 → n = 0 := fun n hn => (Int.mul_eq_zero.mp hn).elim id id
    exact nz ⟨z _ (by omega), z _ (by omega), z _ (by omega)⟩
def bent (n : Nat) : List Tri := (List.range n).map fun k : Nat => ⟨(k : Int), (k : Int) * k, 1⟩
def t0 : Tri := ⟨0, 0, 0⟩
def tr (vs : List Tri) (i : Nat) : Tri := vs.getD i t0
def okB (vs : List Tri) : Bool := vs.all fun v => decide (0 ≤ v.x ∧ v.x ≤ 30 ∧ 0 ≤ v.y ∧ v.y ≤ 150 ∧ 1 ≤ v.z ∧ v.z ≤ 12)
def badS (vs : List Tri) : Bool := decide (vs.length < 3) || decide (8 < vs.length) || decide (dt (tr vs 0) (tr vs 1) (tr vs 2) = 0) || ((List.range vs.length).any fun i => (List.range (vs.length - 2)).any fun j => decide (sgn (dt (tr vs ((i + (vs.length - 1)) % vs.length)) (tr vs i) (tr vs ((i + (j + 1)) % vs.length))) ≠ sgn (dt (tr vs 0) (tr vs 1) (tr vs 2))))
def scl (s t : Int) (v : Tri) : Tri := ⟨v.x * s, v.y * t, v.z * s * t⟩
theorem dt_scl (s t : Int) (a b c : Tri) : dt (scl s t a) (scl s t b) (scl s t c) = s * t * (s * t) * dt a b c := by
  unfold dt det3 scl
  grind
theorem sgn_dt_scl {s t : Int} (hs : 1 ≤ s) (ht : 1 ≤ t) (a b c : Tri) : sgn (dt (scl s t a) (scl s t b) (scl s t c)) = sgn (dt a b c) := by
  rw [dt_scl, sgn_mul]
  have p : 0 < s * t * (s * t) := Int.mul_pos (Int.mul_pos (by omega) (by omega)) (Int.mul_pos (by omega) (by omega))
  have : sgn (s * t * (s * t)) = 1 := by unfold sgn; rw [if_pos p]
  rw [this, Int.one_mul]
def shp (Z : Sht) (s t : Int) (vs : List Tri) : List Pt := vs.map fun v => spt Z (scl s t v)
theorem shp_len {Z : Sht} {s t : Int} {vs : List Tri} : (shp Z s t vs).length = vs.length := List.length_map _
theorem shp_pt {Z : Sht} {s t : Int} {vs : List Tri} {i : Nat} (h : i < vs.length) : pt (shp Z s t vs) i = spt Z (scl s t (tr vs i)) := by
  unfold pt shp tr
  rw [List.getD_eq_getElem?_getD, List.getElem?_map, List.getElem?_eq_getElem h, List.getD_eq_getElem?_getD, List.getElem?_eq_getElem h]
  rfl
theorem okB_at {vs : List Tri} (h : okB vs = true) {i : Nat} (hi : i < vs.length) : 0 ≤ (tr vs i).x ∧ (tr vs i).x ≤ 30 ∧ 0 ≤ (tr vs i).y ∧ (tr vs i).y ≤ 150 ∧ 1 ≤ (tr vs i).z ∧ (tr vs i).z ≤ 12 := by
  have m : tr vs i ∈ vs := by
    unfold tr
    rw [List.getD_eq_getElem?_getD, List.getElem?_eq_getElem hi]
    exact List.getElem_mem hi
  exact of_decide_eq_true (List.all_eq_true.mp h _ m)
theorem scl_pl {s t : Int} (hs : 1 ≤ s) (s4 : s ≤ 4) (ht : 1 ≤ t) (t3 : t ≤ 3) {v : Tri} (h : 0 ≤ v.x ∧ v.x ≤ 30 ∧ 0 ≤ v.y ∧ v.y ≤ 150 ∧ 1 ≤ v.z ∧ v.z ≤ 12) : (scl s t v).pl := by
  obtain ⟨a, b, c, d, e, f⟩ := h
  have es : s = 1 ∨ s = 2 ∨ s = 3 ∨ s = 4 := by omega
  have et : t = 1 ∨ t = 2 ∨ t = 3 := by omega
  unfold Tri.pl scl
  simp only
  rcases es with rfl | rfl | rfl | rfl <;> rcases et with rfl | rfl | rfl <;> omega
theorem bad_shp {Z : Sht} {s t : Int} {vs : List Tri} (hw : 1 ≤ Z.w) (hs : 1 ≤ s) (s4 : s ≤ 4) (ht : 1 ≤ t) (t3 : t ≤ 3) (ok : okB vs = true) (hb : badS vs = true) : Bad (shp Z s t vs) := by
  have pl : ∀ i, i < vs.length → (scl s t (tr vs i)).pl := fun i hi => scl_pl hs s4 ht t3 (okB_at ok hi)
  have ln : (shp Z s t vs).length = vs.length := shp_len
  by_cases c1 : vs.length < 3
  · exact .few (by omega)
  by_cases c2 : 8 < vs.length
  · exact .many (by omega)
  have e0 := shp_pt (Z := Z) (s := s) (t := t) (vs := vs) (i := 0) (by omega)
  have e1 := shp_pt (Z := Z) (s := s) (t := t) (vs := vs) (i := 1) (by omega)
  have e2 := shp_pt (Z := Z) (s := s) (t := t) (vs := vs) (i := 2) (by omega)
  by_cases c3 : dt (tr vs 0) (tr vs 1) (tr vs 2) = 0
  · refine .line (by omega) (by omega) ?_
    rw [e0, e1, e2]
    exact no_arrow hw (pl 0 (by omega)) (pl 1 (by omega)) (pl 2 (by omega)) (by rw [dt_scl, c3, Int.mul_zero])
  unfold badS at hb
  rw [decide_eq_false c1, decide_eq_false c2, decide_eq_false c3] at hb
  simp only [Bool.false_or, List.any_eq_true, List.mem_range] at hb
  obtain ⟨i, hi, j, hj, hd⟩ := hb
  have hd := of_decide_eq_true hd
  refine .bent (by omega) (by omega) fun k k0 k2 hm hr => ?_
  have z := hr i (j + 1) (by omega) (by omega) (by omega)
  rw [ln] at z
  have q1 : (i + (vs.length - 1)) % vs.length < vs.length := Nat.mod_lt _ (by omega)
  have q2 : (i + (j + 1)) % vs.length < vs.length := Nat.mod_lt _ (by omega)
  rw [shp_pt q1, shp_pt hi, shp_pt q2, e0, e1, e2, sgn_min hw (pl _ q1) (pl _ hi) (pl _ q2) k0 k2, sgn_min hw (pl 0 (by omega)) (pl 1 (by omega)) (pl 2 (by omega)) k0 k2, sgn_dt_scl hs ht, sgn_dt_scl hs ht] at z
  rw [e0, e1, e2] at hm
  have u0 : sgn (uk Z k) ≠ 0 := fun z0 => by
    have m0 := sgn_min hw (pl 0 (by omega)) (pl 1 (by omega)) (pl 2 (by omega)) k0 k2
    rw [z0, Int.zero_mul] at m0
    exact hm (sgn_zero m0)
  exact hd (Int.eq_of_mul_eq_mul_left u0 z)
def goodS (vs : List Tri) : Bool := decide (3 ≤ vs.length) && decide (vs.length ≤ 8) && decide (dt (tr vs 0) (tr vs 1) (tr vs 2) ≠ 0) && ((List.range vs.length).all fun i => (List.range (vs.length - 2)).all fun j => decide (sgn (dt (tr vs ((i + (vs.length - 1)) % vs.length)) (tr vs i) (tr vs ((i + (j + 1)) % vs.length))) = sgn (dt (tr vs 0) (tr vs 1) (tr vs 2))))
theorem good_shp {Z : Sht} {s t : Int} {vs : List Tri} (hw : 1 ≤ Z.w) (nz : Z.u.nz) (hs : 1 ≤ s) (s4 : s ≤ 4) (ht : 1 ≤ t) (t3 : t ≤ 3) (ok : okB vs = true) (hb : goodS vs = true) : Brd (shp Z s t vs) := by
  have pl : ∀ i, i < vs.length → (scl s t (tr vs i)).pl := fun i hi => scl_pl hs s4 ht t3 (okB_at ok hi)
  have ln : (shp Z s t vs).length = vs.length := shp_len
  unfold goodS at hb
  simp only [Bool.and_eq_true, decide_eq_true_eq, List.all_eq_true, List.mem_range] at hb
  obtain ⟨⟨⟨c1, c2⟩, c3⟩, c4⟩ := hb
  have e0 := shp_pt (Z := Z) (s := s) (t := t) (vs := vs) (i := 0) (by omega)
  have e1 := shp_pt (Z := Z) (s := s) (t := t) (vs := vs) (i := 1) (by omega)
  have e2 := shp_pt (Z := Z) (s := s) (t := t) (vs := vs) (i := 2) (by omega)
  have sd : sgn (dt (scl s t (tr vs 0)) (scl s t (tr vs 1)) (scl s t (tr vs 2))) = sgn (dt (tr vs 0) (tr vs 1) (tr vs 2)) := sgn_dt_scl hs ht _ _ _
  have d0 : dt (scl s t (tr vs 0)) (scl s t (tr vs 1)) (scl s t (tr vs 2)) ≠ 0 := fun z => c3 (sgn_zero (by rw [← sd, z, sgn0]))
  refine ⟨by omega, by omega, ?_, fun i hi => ?_, fun k k0 k2 hm i j hi j1 j2 => ?_⟩
  · rw [e0, e1, e2]
    exact arrow_spt hw nz d0
  · rw [ln] at hi
    rw [e0, e1, e2, shp_pt hi]
    exact flat_spt hw (pl 0 (by omega)) (pl 1 (by omega)) (pl 2 (by omega)) (pl i hi)
  · rw [ln] at hi j2 ⊢
    have q1 : (i + (vs.length - 1)) % vs.length < vs.length := Nat.mod_lt _ (by omega)
    have q2 : (i + j) % vs.length < vs.length := Nat.mod_lt _ (by omega)
    rw [shp_pt q1, shp_pt hi, shp_pt q2, e0, e1, e2, sgn_min hw (pl _ q1) (pl _ hi) (pl _ q2) k0 k2, sgn_min hw (pl 0 (by omega)) (pl 1 (by omega)) (pl 2 (by omega)) k0 k2, sgn_dt_scl hs ht, sgn_dt_scl hs ht]
    have z := c4 i hi (j - 1) (by omega)
    rw [show j - 1 + 1 = j by omega] at z
    rw [z]
theorem bent_good : okB (bent 8) = true ∧ goodS (bent 8) = true := by decide +kernel
def addT (a b : Tri) : Tri := ⟨a.x + b.x, a.y + b.y, a.z + b.z⟩
def ins (vs : List Tri) (i : Nat) (v : Tri) : List Tri := vs.take i ++ v :: vs.drop i
def sumT (vs : List Tri) : Tri := vs.foldl addT t0
def swp (vs : List Tri) (i j : Nat) : List Tri := (vs.set i (tr vs j)).set j (tr vs i)
def OB (vs : List Tri) : Bool := okB vs && badS vs && decide (vs.length ≤ 13)
theorem OB.to {vs : List Tri} (h : OB vs = true) : okB vs = true ∧ badS vs = true ∧ vs.length ≤ 13 := by
  unfold OB at h
  simp only [Bool.and_eq_true, decide_eq_true_eq] at h
  exact ⟨h.1.1, h.1.2, h.2⟩
theorem ob0 : ∀ n, n < 13 → 9 ≤ n → OB (bent n) = true := by decide +kernel
theorem okn : ∀ n, n < 13 → okB (bent n) = true := by decide +kernel
theorem ob1 : ∀ n, n < 8 → 4 ≤ n → ∀ m, m < 3 → OB ((bent n).take m) = true := by decide +kernel
theorem ob2 : ∀ n, n < 8 → 4 ≤ n → ∀ a, a < n → OB (ins (bent n) a (addT (tr (bent n) a) (tr (bent n) ((a + (n - 1)) % n)))) = true := by decide +kernel
theorem ob3 : ∀ n, n < 8 → 4 ≤ n → ∀ a, a < n → OB (ins (bent n) a (sumT (bent n))) = true := by decide +kernel
theorem ob4 : ∀ n, n < 8 → 4 ≤ n → ∀ a, a < n → ∀ b, b < n → OB (ins (bent n) b (tr (bent n) a)) = true := by decide +kernel
theorem ob5 : ∀ n, n < 8 → 4 ≤ n → ∀ a, a < n → OB (swp (bent n) a ((a + (n - 1)) % n)) = true := by decide +kernel
theorem ob6 : OB ((List.range 5).map fun k => tr (bent 5) (2 * k % 5)) = true := by decide +kernel
theorem ob7 : ∀ n, n < 8 → 4 ≤ n → OB ((List.range n).map fun k : Nat => (⟨(k : Int), 3 * (k : Int), 1⟩ : Tri)) = true := by decide +kernel
theorem ob8 : ∀ n, n < 8 → 4 ≤ n → ∀ a, a < n → OB ((bent n).map fun _ => tr (bent n) a) = true := by decide +kernel
theorem dtn : ∀ n, n < 8 → 4 ≤ n → dt (tr (bent n) 0) (tr (bent n) 1) (tr (bent n) 2) ≠ 0 ∧ dt (tr (bent n) 3) (tr (bent n) 1) (tr (bent n) 2) ≠ 0 ∧ dt (tr (bent n) 0) (tr (bent n) 3) (tr (bent n) 2) ≠ 0 ∧ dt (tr (bent n) 0) (tr (bent n) 1) (tr (bent n) 3) ≠ 0 := by decide +kernel
theorem Plc.app {H : Hp} {rs rs' : List Addr} {ps ps' : List Tri} (h : Plc H rs ps) (k : Plc H rs' ps') : Plc H (rs ++ rs') (ps ++ ps') := by
  induction h with
  | nil => exact k
  | cons h _ ih => exact .cons h ih
theorem Plc.drop {H : Hp} {rs : List Addr} {ps : List Tri} (h : Plc H rs ps) : ∀ n, Plc H (rs.drop n) (ps.drop n) := by
  induction h with
  | nil => intro n; rw [List.drop_nil, List.drop_nil]; exact .nil
  | cons h k ih =>
    intro n
    cases n with
    | zero => exact .cons h k
    | succ n => exact ih n
theorem Plc.take {H : Hp} {rs : List Addr} {ps : List Tri} (h : Plc H rs ps) : ∀ n, Plc H (rs.take n) (ps.take n) := by
  induction h with
  | nil => intro n; rw [List.take_nil, List.take_nil]; exact .nil
  | cons h k ih =>
    intro n
    cases n with
    | zero => exact .nil
    | succ n => exact .cons h (ih n)
theorem Plc.set {H : Hp} {rs : List Addr} {ps : List Tri} (h : Plc H rs ps) : ∀ (n : Nat) (r : Addr) (v : Tri), H r = some (.tup [.int v.x, .int v.y, .int v.z]) → Plc H (rs.set n r) (ps.set n v) := by
  induction h with
  | nil => intro n r v hr; exact .nil
  | cons h k ih =>
    intro n r v hr
    cases n with
    | zero => exact .cons hr k
    | succ n => exact .cons h (ih n r v hr)
theorem Plc.at {H : Hp} {rs : List Addr} {vs : List Tri} (h : Plc H rs vs) {i : Nat} (hi : i < vs.length) : (rs.map V.ref)[i]? = some (.ref (ad rs i)) ∧ H (ad rs i) = some (.tup [.int (tr vs i).x, .int (tr vs i).y, .int (tr vs i).z]) := by
  have e : vs[i]? = some (tr vs i) := by
    unfold tr
    rw [List.getD_eq_getElem?_getD, List.getElem?_eq_getElem hi]
    rfl
  obtain ⟨h1, h2⟩ := h.get e
  exact ⟨by rw [List.getElem?_map, h1]; rfl, h2⟩
theorem bent_len (n : Nat) : (bent n).length = n := by unfold bent; rw [List.length_map, List.length_range]
def spBent : Sp := fun vs H Q _ => ∃ n : Nat, vs = [.int (n : Int)] ∧ n ≤ 12 ∧ ∀ (l : Addr) (rs : List Addr) (H' : Hp), H l = none → Same H H' → H' l = some (.lst (rs.map V.ref)) → Plc H' rs (bent n) → Q (.ref l) H'
def spWithin : Sp := fun vs H Q _ => ∃ (l : Addr) (rs : List Addr) (n : Nat), vs = [.ref l] ∧ H l = some (.lst (rs.map V.ref)) ∧ Plc H rs (bent n) ∧ 4 ≤ n ∧ n ≤ 7 ∧ ∀ (g : Addr) (H' : Hp), Same H H' → H' g = some (.tup [.int (sumT (bent n)).x, .int (sumT (bent n)).y, .int (sumT (bent n)).z]) → Q (.ref g) H'
def spLifted : Sp := fun vs H Q _ => ∃ (r zt : Addr) (Z : Sht) (v : Tri), vs = [.ref r, .ref zt] ∧ Is4 H r (spt Z v) ∧ IsSh H zt Z ∧ v.pl ∧ ∀ (g : Addr) (H' : Hp), Same H H' → Is4 H' g (lftP Z (spt Z v)) → Q (.ref g) H'
theorem ok_bent (T : Tx K mg t1 t2) (F : At K mg "_law_bent" s__law_bent ["many"] []) : DefOk P w K mg base CX0 1 "_law_bent" ["many"] [] spBent := by
  refine F.ok sc__law_bent (fun vs H Q E h => ?_) (fun f cdv A outer s H vs Q E hr h => ?_)
  · obtain ⟨n, rfl, _⟩ := h
    rfl
  obtain ⟨n, rfl, hn, q⟩ := h
  have S := sc__law_bent
  refine ⟨_, (pss_one (ps_ret (pe_comp rfl (N' := ["k"]) (ix := []) ⟨rfl, rfl, by decide +kernel, by decide +kernel, rfl, by decide +kernel, (show ∀ y : Str × NameKind, y ∈ _ → y.2 = NameKind.free → (defScope s__law_bent).names.lookup y.1 = some .cell ∨ (defScope s__law_bent).names.lookup y.1 = some .free from by decide +kernel), .nil⟩ (pi_range1 rfl T.m_range (pa_cons (pv 0) pa_nil se_nam)) (fun _ _ _ _ => pg_name (i := 0) (show (["k"] : List Str).Nodup from by decide +kernel) rfl (Or.inl rfl)) (fun _ _ _ _ => pts_nil) (fun _ _ _ _ => (pe_tup (pa_cons (pv 0) (pa_cons (pe_op op_mulB (pv 0) (pv 0)) (pa_cons pe_int pa_nil se_con) se_bin) se_nam)))))), ?_⟩
  try walk_at "rf"
  refine ⟨by omega, by omega, fun acc hacc => ?_⟩
  rw [Int.toNat_natCast]
  refine compRq (n := n) (fun i y H => ∃ r : Addr, y = .ref r ∧ H r = some (.tup [.int (i : Int), .int ((i : Int) * i), .int 1])) (fun i y H H' hp st => by obtain ⟨r, h1, h2⟩ := hp; exact ⟨r, h1, st _ _ h2⟩) (by omega) hacc (fun i H3 R hi s3 hR => ?_) fun ys H1 s1 e1 l1 p1 => ?_
  · try walk_at "rf"
    rw [Int.zero_add]
    have fi : Fit (i : Int) := Bd.fit (n := 5) (by unfold Bd; omega)
    exact ⟨fi, fi, by decide, fun p hp => hR _ _ (Same.new hp _) ⟨p, rfl, upd_same⟩⟩
  · obtain ⟨rs, rfl, hP⟩ := plc_of ys (bent n) (by rw [l1, bent_len]) (fun i y v h1 h2 => by
      obtain ⟨r, hr1, hr2⟩ := p1 i y h1
      unfold bent at h2
      have hi : i < n := by
        have := (List.getElem?_eq_some_iff.mp h1).1
        omega
      rw [List.getElem?_map, List.getElem?_range hi] at h2
      cases h2
      exact ⟨r, hr1, hr2⟩)
    exact q acc rs H1 hacc s1 e1 hP
def cmp (j : Nat) (v : Tri) : Int := if j = 0 then v.x else if j = 1 then v.y else v.z
theorem sumT_c : ∀ n, n < 8 → ∀ j, j < 3 → ((bent n).map (cmp j)).sum = cmp j (sumT (bent n)) := by decide +kernel
theorem ok_within (T : Tx K mg t1 t2) (F : At K mg "_law_within" s__law_within ["shape"] []) : DefOk P w K mg base CX0 1 "_law_within" ["shape"] [] spWithin := by
  refine F.ok sc__law_within (fun vs H Q E h => ?_) (fun f cdv A outer s H vs Q E hr h => ?_)
  · obtain ⟨l, rs, n, rfl, _⟩ := h
    rfl
  obtain ⟨l, rs, n, rfl, hl, hP, n4, n7, q⟩ := h
  have S := sc__law_within
  refine ⟨_, (pss_one (ps_ret (pe_callTy call_tuple_of rfl T.m_tuple boot_tuple (pa_cons (pe_compC rfl (N' := ["j", "shape"]) (ix := [0]) ⟨rfl, rfl, by decide +kernel, by decide +kernel, by decide +kernel, (show ∀ y : Str × NameKind, y ∈ _ → y.2 = NameKind.free → (defScope s__law_within).names.lookup y.1 = some .cell ∨ (defScope s__law_within).names.lookup y.1 = some .free from by decide +kernel), (.cons rfl (.inl rfl) rfl .nil)⟩ (pi_range1 rfl T.m_range (pa_cons pe_int pa_nil se_con)) (fun _ _ _ _ => pg_name (i := 0) (show (["j", "shape"] : List Str).Nodup from by decide +kernel) rfl (Or.inr rfl)) (fun _ _ _ _ => pts_nil) (fun _ _ _ _ => (pe_callB (call_sumK (K := K) rfl rfl) rfl T.m_sum boot_sum (pa_cons (pe_comp rfl (N' := ["place", "j"]) (ix := [0]) (CompScope.nest rfl rfl (by decide +kernel) (by decide +kernel) rfl (by decide +kernel) (show ∀ y : Str × NameKind, y ∈ _ → y.2 = NameKind.free → y.1 ∈ (["j"] : List Str) from by decide +kernel) (.cons rfl (.inl rfl) rfl .nil)) (pi_listK (K := K) rfl (pv 1)) (fun _ _ _ _ => pg_name (i := 0) (show (["place", "j"] : List Str).Nodup from by decide +kernel) rfl (Or.inl rfl)) (fun _ _ _ _ => pts_nil) (fun _ _ _ _ => (pe_ix (ix_tupK (K := K) rfl) (pv 0) (pv 1) (fun _ _ => rfl)))) pa_nil se_cmp)))) pa_nil se_cmp)))), ?_⟩
  try walk_at "rf"
  refine ⟨by decide, by decide, fun acc hacc => compR (n := 3) (fun j => .int (cmp j (sumT (bent n)))) (by decide) hacc (fun j H3 R hj s3 hR => ?_) fun H1 s1 e1 => ?_⟩
  · have kl : SqL K H3 l (rs.map V.ref) := SqL.of (s3 _ _ hl)
    have hP3 := hP.keep s3.t
    have lr : rs.length = n := by rw [hP.len, bent_len]
    try walk_at "rf"
    refine ⟨⟨_, kl⟩, fun ac2 hac2 => ?_⟩
    refine compLq (K := K) (a := l) (zs := rs.map V.ref) (fun i y _ => y = .int (cmp j (tr (bent n) i))) (fun _ _ _ _ h _ => h) (by rw [List.length_map]; omega) hac2 kl (fun i z H4 R4 hz s4 hR4 => ?_) fun ys H4 s4 e4 l4 p4 => ?_
    · have hi : i < n := by
        have := (List.getElem?_eq_some_iff.mp hz).1
        rw [List.length_map] at this
        omega
      obtain ⟨g1, g2⟩ := (hP3.keep s4.t).at (i := i) (by rw [bent_len]; exact hi)
      rw [g1] at hz
      cases hz
      have kt : SqT K H4 (ad rs i) [.int (tr (bent n) i).x, .int (tr (bent n) i).y, .int (tr (bent n) i).z] := SqT.of g2
      have hRR := hR4 _ H4 (Same.refl _) rfl
      match j, hj, hRR with
      | 0, _, hRR => (try walk_at "rf"); exact ixT kt (i := 0) rfl hRR
      | 1, _, hRR => (try walk_at "rf"); exact ixT kt (i := 1) rfl hRR
      | 2, _, hRR => (try walk_at "rf"); exact ixT kt (i := 2) rfl hRR
    · have ey : ys = ((bent n).map (cmp j)).map V.int := by
        apply List.ext_getElem?
        intro i
        by_cases hi : i < n
        · have e : (bent n)[i]? = some (tr (bent n) i) := by
            unfold tr
            rw [List.getD_eq_getElem?_getD, List.getElem?_eq_getElem (by rw [bent_len]; exact hi)]
            rfl
          rw [List.getElem?_map, List.getElem?_map, e]
          have l5 : ys.length = n := by rw [l4, List.length_map, lr]
          rw [List.getElem?_eq_getElem (by omega)]
          exact congrArg some (p4 i _ (List.getElem?_eq_getElem (by omega)))
        · rw [List.getElem?_eq_none (by rw [l4, List.length_map, lr]; omega), List.getElem?_eq_none (by rw [List.length_map, List.length_map, bent_len]; omega)]
      subst ey
      refine ⟨_, SqL.of e4, ?_⟩
      rw [sumT_c n (by omega) j hj]
      exact hR _ s4
  · exact ⟨_, .inl ⟨SqL.of e1, fun g hg => q g _ (s1.trans (Same.new hg _)) upd_same⟩⟩
theorem ok_lifted (T : Tx K mg t1 t2) (F : At K mg "_law_lifted" s__law_lifted ["spot", "sheet"] []) (d__law_cross : DefOk P w K mg base CX0 1 "_law_cross" ["one", "other"] [] spCross) (d__law_lowest : DefOk P w K mg base CX0 2 "_law_lowest" ["numbers"] [] spLowL) : DefOk P w K mg base CX0 3 "_law_lifted" ["spot", "sheet"] [] spLifted := by
  refine F.ok sc__law_lifted (fun vs H Q E h => ?_) (fun f cdv A outer s H vs Q E hr h => ?_)
  · obtain ⟨r, zt, Z, v, rfl, _⟩ := h
    rfl
  obtain ⟨r, zt, Z, v, rfl, hp, hZ, hv, q⟩ := h
  have S := sc__law_lifted
  refine ⟨_, (pss_cons (ps_set (i := 2) S.nd rfl (Or.inr rfl) (pe_callD d__law_cross (hr.mono (by decide)) rfl pass0 (pa_cons (pe_ix ix_tup (pv 1) pe_int (fun _ _ => rfl)) (pa_cons (pe_ix ix_tup (pv 1) pe_int (fun _ _ => rfl)) pa_nil se_sub) se_sub)))
    (pss_one (ps_ret (pe_callD d__law_lowest (hr.mono (by decide)) rfl pass0 (pa_cons (pe_op op_cat (pe_comp rfl (N' := ["k", "spot", "upright"]) (ix := [0, 2]) ⟨rfl, rfl, by decide +kernel, by decide +kernel, rfl, by decide +kernel, (show ∀ y : Str × NameKind, y ∈ _ → y.2 = NameKind.free → (defScope s__law_lifted).names.lookup y.1 = some .cell ∨ (defScope s__law_lifted).names.lookup y.1 = some .free from by decide +kernel), (.cons rfl (.inl rfl) rfl (.cons rfl (.inl rfl) rfl .nil))⟩ (pi_range1 rfl T.m_range (pa_cons pe_int pa_nil se_con)) (fun _ _ _ _ => pg_name (i := 0) (show (["k", "spot", "upright"] : List Str).Nodup from by decide +kernel) rfl (Or.inl rfl)) (fun _ _ _ _ => pts_nil) (fun _ _ _ _ => (pe_op op_add (pe_ix (ix_tupK (K := K) rfl) (pv 1) (pv 0) (fun _ _ => rfl)) (pe_op op_mulB (pe_ix (ix_tupK (K := K) rfl) (pv 1) pe_int (fun _ _ => rfl)) (pe_ix (ix_tupK (K := K) rfl) (pv 2) (pv 0) (fun _ _ => rfl)))))) (pe_lst (pa_cons (pe_ix ix_tup (pv 0) pe_int (fun _ _ => rfl)) pa_nil se_sub))) pa_nil se_bin))))), ?_⟩
  obtain ⟨a, c, dd, h0, ha, hc, hd, w1, w2, nz⟩ := id hZ
  have k0 : SqT K H zt [.ref a, .int Z.w, .ref c, .ref dd] := SqT.of h0
  try walk_at "rf"
  refine ixT k0 (i := 2) rfl (ixT k0 (i := 3) rfl ⟨c, dd, _, _, _, _, _, _, rfl, hc.t, hd.t, fun g1 H1 s1 e1 => ?_⟩)
  try walk_at "rf"
  have fx1 := hp.2.fx
  have fx2 := hp.2.fy
  have fx3 := hp.2.fz
  have fx4 := hp.2.fw
  have uB : ∀ {x y z v : Int}, Bd 42 x → Bd 42 y → Bd 42 z → Bd 42 v → Bd 85 (x * y - z * v) := fun h1 h2 h3 h4 => Bd.sub (n := 84) (Bd.mul (n := 42) (m := 42) h1 h2) (Bd.mul (n := 42) (m := 42) h3 h4)
  have u1 := uB hc.2.2.1 hd.2.2.2 hc.2.2.2 hd.2.2.1
  have u2 := uB hc.2.2.2 hd.2.1 hc.2.1 hd.2.2.2
  have u3 := uB hc.2.1 hd.2.2.1 hc.2.2.1 hd.2.1
  have f1 := u1.fit
  have f2 := u2.fit
  have f3 := u3.fit
  refine ⟨by decide, by decide, fun acc hacc => compR (n := 3) (fun i => .int ((lft Z (spt Z v)).getD i 0)) (by decide) hacc (fun i H3 R hi s3 hR => ?_) fun H2 s2 e2 => ?_⟩
  · have kp := (hp.keep (s1.trans s3)).sq (K := K)
    have ku : SqT K H3 g1 [V.int (Z.c.y * Z.d.z - Z.c.z * Z.d.y), V.int (Z.c.z * Z.d.x - Z.c.x * Z.d.z), V.int (Z.c.x * Z.d.y - Z.c.y * Z.d.x)] := SqT.of (s3 _ _ e1)
    have hRR := hR H3 (Same.refl _)
    match i, hi, hRR with
    | 0, _, hRR => (try walk_at "rf"); walk_at "gf"; exact hRR
    | 1, _, hRR => (try walk_at "rf"); walk_at "gf"; exact hRR
    | 2, _, hRR => (try walk_at "rf"); walk_at "gf"; exact hRR
  · have kp := (hp.keep (s1.trans s2)).sq (K := K)
    refine ixT kp (i := 3) rfl ⟨by decide, fun p3 hp3 => ?_⟩
    have s3 := Same.new hp3 (.lst [.int (spt Z v).w])
    have e3 : upd H2 p3 (.lst [.int (spt Z v).w]) p3 = some (.lst [.int (spt Z v).w]) := upd_same
    generalize upd H2 p3 (.lst [.int (spt Z v).w]) = H3 at s3 e3 ⊢
    have bu : ∀ {x y : Int}, Sm2 x → Bd 85 y → Small (x + (spt Z v).w * y) := fun {x y} hx hy => Bd.mono (n := 286) (Bd.add (n := 285) (Bd.mono (n := 200) hx) (Bd.mul (n := 200) (m := 85) hp.2.2.2.2 hy))
    refine ⟨acc, p3, _, _, rfl, rfl, s3 _ _ e2, e3, by simp; decide, fun l2 h2 => ?_⟩
    have gp : 0 < gl (lft Z (spt Z v)) := gl_pos (n := (spt Z v).w) (by simp [lft]) (by have := spt_w w1 hv; omega)
    have gs : Small (gl (lft Z (spt Z v))) := small_gl (ns := lft Z (spt Z v)) fun n hn => by
      simp only [lft, List.mem_cons, List.not_mem_nil, or_false] at hn
      rcases hn with rfl | rfl | rfl | rfl
      · exact bu hp.2.1 u1
      · exact bu hp.2.2.1 u2
      · exact bu hp.2.2.2.1 u3
      · exact Bd.mono (n := 200) hp.2.2.2.2
    have s4 := Same.new h2 (.lst ((lft Z (spt Z v)).map V.int))
    refine ⟨l2, lft Z (spt Z v), rfl, upd_same, by simp [lft], gp, gs.bd.fit, fun g H7 s7 e7 => ?_⟩
    have dv : ∀ {n : Int}, Small n → Small (n / gl (lft Z (spt Z v))) := fun h => h.div
    obtain ⟨p0', p1', q0', q1', r0', r1'⟩ := hv
    have bp := bd7 (i := v.x) (by omega) (by omega)
    have bq := bd7 (i := v.y) (by omega) (by omega)
    have br := bd7 (i := v.z) (by omega) (by omega)
    have bw := bd7 (i := Z.w) (by omega) (by omega)
    have bX : Bd 66 (spt Z v).x := Bd.div (raw_bd ha.2.1 hc.2.1 hd.2.1 bw bp bq br)
    have bY : Bd 66 (spt Z v).y := Bd.div (raw_bd ha.2.2.1 hc.2.2.1 hd.2.2.1 bw bp bq br)
    have bZ : Bd 66 (spt Z v).z := Bd.div (raw_bd ha.2.2.2 hc.2.2.2 hd.2.2.2 bw bp bq br)
    have bW : Bd 66 (spt Z v).w := Bd.div (Bd.mono (n := 20) (Bd.mul (n := 10) (m := 10) bw br))
    have bs : ∀ {x y : Int}, Bd 66 x → Bd 85 y → Bd 170 (x + (spt Z v).w * y) := fun {x y} hx hy => Bd.mono (n := 152) (Bd.add (n := 151) (Bd.mono (n := 66) hx) (Bd.mul (n := 66) (m := 85) bW hy))
    have hZ2 : ∀ n ∈ lft Z (spt Z v), Bd 170 n := fun n hn => by
      simp only [lft, List.mem_cons, List.not_mem_nil, or_false] at hn
      rcases hn with rfl | rfl | rfl | rfl
      · exact bs bX u1
      · exact bs bY u2
      · exact bs bZ u3
      · exact Bd.mono (n := 66) bW
    exact q g H7 ((s1.trans s2).trans ((s3.trans s4).trans s7)) ⟨e7, Bd.mono (n := 170) (Bd.div (hZ2 _ (by simp [lft]))), Bd.mono (n := 170) (Bd.div (hZ2 _ (by simp [lft]))), Bd.mono (n := 170) (Bd.div (hZ2 _ (by simp [lft]))), Bd.mono (n := 170) (Bd.div (hZ2 _ (by simp [lft])))⟩
def spRefused : Sp := fun vs H Q _ => ∃ (l : Addr) (rs : List Addr) (ps : List Pt), vs = [.ref l] ∧ Cor H l rs ps ∧ Bad ps ∧ ∀ H' : Hp, Same H H' → Q (.bl true) H'
theorem ok_refused {cs : Nat → Addr} {SE C : Addr} (T : Tc K mg t1 t2 cs SE C) (F : At K mg "_law_refused" s__law_refused ["corners"] []) (d_made_board : DefOk P w K mg base (XOk P w) 6 "made_board" ["corners"] [] (spBoardX C)) : DefOk P w K mg base CX0 7 "_law_refused" ["corners"] [] spRefused := by
  refine F.ok sc__law_refused (fun vs H Q E h => ?_) (fun f cdv A outer s H vs Q E hr h => ?_)
  · obtain ⟨l, rs, ps, rfl, _⟩ := h
    rfl
  obtain ⟨l, rs, ps, rfl, hc, hB, q⟩ := h
  have S := sc__law_refused
  refine ⟨_, (pss_cons (ps_set (i := 1) S.nd rfl (Or.inl rfl) pe_non)
    (pss_cons (ps_tryAs (i := 2) (top_nox top_cxX) rfl T.m_SightError S.nd rfl rfl (Or.inl rfl) (psx_expr (px_callD d_made_board (hr.mono (by decide)) rfl (pa_cons (pv 0) pa_nil se_nam))) (fun _ => (pss_one (ps_set (i := 1) S.nd rfl (Or.inl rfl) (pv 2)))))
    (pss_cons (ps_if (pt_val (pe_callB (call_isinstTK (K := K) rfl) rfl T.m_isinstance boot_isinstance (pa_cons (pv 1) (pa_cons (pe_tup (pa_cons (pe_glob rfl T.m_NoDeed T.r_NoDeed) (pa_cons (pe_glob rfl T.m_NoFrame T.r_NoFrame) (pa_cons (pe_glob rfl T.m_NoName T.r_NoName) (pa_cons (pe_glob rfl T.m_NoNumber T.r_NoNumber) (pa_cons (pe_glob rfl T.m_NoPlane T.r_NoPlane) (pa_cons (pe_glob rfl T.m_NoSpot T.r_NoSpot) (pa_cons (pe_glob rfl T.m_NoText T.r_NoText) (pa_cons (pe_glob rfl T.m_NotFree T.r_NotFree) (pa_cons (pe_glob rfl T.m_TooMany T.r_TooMany) pa_nil se_nam) se_nam) se_nam) se_nam) se_nam) se_nam) se_nam) se_nam) se_nam)) pa_nil se_tup) se_nam)))
    (pss_one (ps_ret pe_bl))
    pss_nil)
    (pss_one (ps_ret (pe_and (pe_callB (call_isinstTK (K := K) rfl) rfl T.m_isinstance boot_isinstance (pa_cons (pv 1) (pa_cons (pe_glob rfl T.m_NoBoard T.r_NoBoard) pa_nil se_nam) se_nam)) (pe_one (pe_callB (call_isinstTK (K := K) rfl) rfl T.m_isinstance boot_isinstance (pa_cons (pv 1) (pa_cons (pe_bltn (v := .ty "ValueError") rfl T.m_ValueError boot_ValueError rfl) pa_nil se_nam) se_nam))))))))), ?_⟩
  try walk_at "rf"
  refine ⟨l, rs, ps, rfl, hc, .inr ⟨hB, fun H1 s1 => ⟨C, rfl, T.em, fun ea hea => ?_⟩⟩⟩
  simp only [L2.Ends.gone]
  try walk_at "rf"
  have se := Same.new hea (CaughtO ea C)
  have ee : upd H1 ea (CaughtO ea C) ea = some (CaughtO ea C) := upd_same
  generalize upd H1 ea (CaughtO ea C) = H2 at se ee ⊢
  refine ⟨by decide, fun t ht => ?_⟩
  have st := Same.new ht (.tup [V.ref (cs 0), V.ref (cs 1), V.ref (cs 2), V.ref (cs 3), V.ref (cs 4), V.ref (cs 5), V.ref (cs 6), V.ref (cs 7), V.ref (cs 8)])
  have et : upd H2 t (.tup [V.ref (cs 0), V.ref (cs 1), V.ref (cs 2), V.ref (cs 3), V.ref (cs 4), V.ref (cs 5), V.ref (cs 6), V.ref (cs 7), V.ref (cs 8)]) t = some (.tup [V.ref (cs 0), V.ref (cs 1), V.ref (cs 2), V.ref (cs 3), V.ref (cs 4), V.ref (cs 5), V.ref (cs 6), V.ref (cs 7), V.ref (cs 8)]) := upd_same
  generalize upd H2 t (.tup [V.ref (cs 0), V.ref (cs 1), V.ref (cs 2), V.ref (cs 3), V.ref (cs 4), V.ref (cs 5), V.ref (cs 6), V.ref (cs 7), V.ref (cs 8)]) = H3 at st et ⊢
  have eC := st _ _ ee
  refine ⟨C, eC, T.xc, false, .inr ⟨(List.range 9).map cs, et, T.kO⟩, ?_⟩
  rw [if_neg (by decide)]
  refine ⟨C, eC, T.xc, true, .inl T.kF, ?_⟩
  rw [if_pos rfl]
  exact ⟨C, eC, T.xc, true, T.kV, q _ (s1.trans (se.trans st))⟩
structure Pm (H : Hp) (L : Addr) (way : Int) (j : Int) (H' : Hp) (l : Addr) (rs : List Addr) (vs : List Tri) (n a : Nat) : Prop where
  sb : SameB L H H'
  bx : Box H' L
  ne : l ≠ L
  hn : H l = none
  hl : H' l = some (.lst (rs.map V.ref))
  pl : Plc H' rs vs
  an : a < n
  w0 : way = 0 → 9 ≤ n ∧ n ≤ 12
  w1 : 1 ≤ way → 4 ≤ n ∧ n ≤ 7
  ob : 1 ≤ way → way ≤ 8 → way < j → OB vs = true
  bt : ¬ (1 ≤ way ∧ way ≤ 8 ∧ way < j) → vs = bent n
def pM0 (H : Hp) (L : Addr) (Z : Sht) (zt : Addr) (way : Int) : L2.St → Hp → Prop := fun σ H' => ∃ (l : Addr) (rs : List Addr) (vs : List Tri) (n : Nat), σ = [some (.ref L), some (.ref zt), some (.int way), some (.ref l), none, none, none, none] ∧ Pm H L way 1 H' l rs vs n 0
def pM (H : Hp) (L : Addr) (Z : Sht) (zt : Addr) (way : Int) (j : Int) : L2.St → Hp → Prop := fun σ H' => ∃ (l : Addr) (rs : List Addr) (vs : List Tri) (n a : Nat), σ = [some (.ref L), some (.ref zt), some (.int way), some (.ref l), some (.int (a : Int)), none, none, none] ∧ Pm H L way j H' l rs vs n a
def pM2 (H : Hp) (L : Addr) (Z : Sht) (zt : Addr) (way : Int) : L2.St → Hp → Prop := fun σ H' => ∃ (l : Addr) (rs : List Addr) (vs : List Tri) (n a : Nat) (s t : Int), σ = [some (.ref L), some (.ref zt), some (.int way), some (.ref l), some (.int (a : Int)), some (.int s), some (.int t), none] ∧ Pm H L way 10 H' l rs vs n a ∧ 1 ≤ s ∧ s ≤ 4 ∧ 1 ≤ t ∧ t ≤ 3
def pM3 (H : Hp) (L : Addr) (Z : Sht) (zt : Addr) (way : Int) : L2.St → Hp → Prop := fun σ H' => ∃ (g : Addr) (rs : List Addr) (vs : List Tri) (n a : Nat) (s t : Int) (o3 o5 o6 : Option V), σ = [some (.ref L), some (.ref zt), some (.int way), o3, some (.int (a : Int)), o5, o6, some (.ref g)] ∧ SameB L H H' ∧ Box H' L ∧ H g = none ∧ g ≠ L ∧ Cor H' g rs (shp Z s t vs) ∧ a < n ∧ 1 ≤ s ∧ s ≤ 4 ∧ 1 ≤ t ∧ t ≤ 3 ∧ (way ≠ 9 → OB vs = true) ∧ (way = 9 → vs = bent n ∧ 4 ≤ n ∧ n ≤ 7)
def pM4 (H : Hp) (L : Addr) : L2.St → Hp → Prop := fun σ H' => ∃ (g : Addr) (rs : List Addr) (ps : List Pt) (o1 o2 o3 o4 o5 o6 : Option V), σ = [some (.ref L), o1, o2, o3, o4, o5, o6, some (.ref g)] ∧ SameB L H H' ∧ Box H' L ∧ Cor H' g rs ps ∧ Bad ps
def spSpoilt : Sp := fun vs H Q _ => ∃ (L zt : Addr) (Z : Sht) (way : Int), vs = [.ref L, .ref zt, .int way] ∧ Box H L ∧ IsSh H zt Z ∧ 0 ≤ way ∧ way ≤ 9 ∧ ∀ (g : Addr) (rs : List Addr) (ps : List Pt) (H' : Hp), SameB L H H' → Box H' L → Cor H' g rs ps → Bad ps → Q (.ref g) H'
theorem Pm.skip {H : Hp} {L : Addr} {way j : Int} {H' : Hp} {l : Addr} {rs : List Addr} {vs : List Tri} {n a : Nat} (h : Pm H L way j H' l rs vs n a) (c : ¬ way = j) : Pm H L way (j + 1) H' l rs vs n a :=
  ⟨h.sb, h.bx, h.ne, h.hn, h.hl, h.pl, h.an, h.w0, h.w1, fun a b e => h.ob a b (by omega), fun k => h.bt (fun z => k (by omega))⟩
theorem Sps.set {H : Hp} {rs : List Addr} {ps : List Pt} (h : Sps H rs ps) : ∀ (n : Nat) (r : Addr) (p : Pt), Is4 H r p → Sps H (rs.set n r) (ps.set n p) := by
  induction h with
  | nil => intro n r v hr; exact .nil
  | cons h k ih =>
    intro n r v hr
    cases n with
    | zero => exact .cons hr k
    | succ n => exact .cons h (ih n r v hr)
theorem pt_set {ps : List Pt} {a i : Nat} {p : Pt} : a < ps.length → pt (ps.set a p) i = if i = a then p else pt ps i := fun h => by
  unfold pt
  rw [List.getD_eq_getElem?_getD, List.getD_eq_getElem?_getD, List.getElem?_set]
  by_cases c : a = i
  · subst c
    rw [if_pos rfl, if_pos h, if_pos rfl]
    rfl
  · rw [if_neg c, if_neg (Ne.symm c)]
theorem bad_off {Z : Sht} {s t : Int} {n a : Nat} (hw : 1 ≤ Z.w) (nz : Z.u.nz) (hs : 1 ≤ s) (s4 : s ≤ 4) (ht : 1 ≤ t) (t3 : t ≤ 3) (n7 : n < 8) (n4 : 4 ≤ n) (an : a < n) : Bad ((shp Z s t (bent n)).set a (lftP Z (spt Z (scl s t (tr (bent n) a))))) := by
  have lb : (bent n).length = n := bent_len n
  have pl : ∀ i, i < n → (scl s t (tr (bent n) i)).pl := fun i hi => scl_pl hs s4 ht t3 (okB_at (okn n (by omega)) (by omega))
  have ln : (shp Z s t (bent n)).length = n := by rw [shp_len, lb]
  have ln' : ((shp Z s t (bent n)).set a (lftP Z (spt Z (scl s t (tr (bent n) a))))).length = n := by rw [List.length_set, ln]
  have e : ∀ i, i < n → pt (shp Z s t (bent n)) i = spt Z (scl s t (tr (bent n) i)) := fun i hi => shp_pt (by omega)
  have es : ∀ i, pt ((shp Z s t (bent n)).set a (lftP Z (spt Z (scl s t (tr (bent n) a))))) i = if i = a then lftP Z (spt Z (scl s t (tr (bent n) a))) else pt (shp Z s t (bent n)) i := fun i => pt_set (by omega)
  obtain ⟨d1, d2, d3, d4⟩ := dtn n n7 n4
  have st0 : s * t * (s * t) ≠ 0 := Int.ne_of_gt (Int.mul_pos (Int.mul_pos (by omega) (by omega)) (Int.mul_pos (by omega) (by omega)))
  have sc : ∀ {x y z : Tri}, dt x y z ≠ 0 → dt (scl s t x) (scl s t y) (scl s t z) ≠ 0 := fun h => by rw [dt_scl]; exact Int.mul_ne_zero st0 h
  have one : ∀ i j k, i < n → j < n → k < n → dt (tr (bent n) i) (tr (bent n) j) (tr (bent n) k) ≠ 0 → H4 (spt Z (scl s t (tr (bent n) i))) (spt Z (scl s t (tr (bent n) j))) (spt Z (scl s t (tr (bent n) k))) (lftP Z (spt Z (scl s t (tr (bent n) a)))) ≠ 0 := fun i j k hi hj hk h =>
    off_one hw nz (pl i hi) (pl j hj) (pl k hk) (pl a an) (spt_w hw (pl a an)) (sc h)
  have fin : ∀ i, i < n → H4 (pt ((shp Z s t (bent n)).set a (lftP Z (spt Z (scl s t (tr (bent n) a))))) 0) (pt ((shp Z s t (bent n)).set a (lftP Z (spt Z (scl s t (tr (bent n) a))))) 1) (pt ((shp Z s t (bent n)).set a (lftP Z (spt Z (scl s t (tr (bent n) a))))) 2) (pt ((shp Z s t (bent n)).set a (lftP Z (spt Z (scl s t (tr (bent n) a))))) i) ≠ 0 → Bad ((shp Z s t (bent n)).set a (lftP Z (spt Z (scl s t (tr (bent n) a))))) := fun i hi h => .off (by omega) (by omega) i (by omega) h
  by_cases c0 : a = 0
  · refine fin 3 (by omega) ?_
    rw [es 0, es 1, es 2, es 3, if_pos c0.symm, if_neg (by omega), if_neg (by omega), if_neg (by omega), e 1 (by omega), e 2 (by omega), e 3 (by omega), H4_03]
    exact fun z => one 3 1 2 (by omega) (by omega) (by omega) d2 (by omega)
  by_cases c1 : a = 1
  · refine fin 3 (by omega) ?_
    rw [es 0, es 1, es 2, es 3, if_neg (by omega), if_pos c1.symm, if_neg (by omega), if_neg (by omega), e 0 (by omega), e 2 (by omega), e 3 (by omega), H4_13]
    exact fun z => one 0 3 2 (by omega) (by omega) (by omega) d3 (by omega)
  by_cases c2 : a = 2
  · refine fin 3 (by omega) ?_
    rw [es 0, es 1, es 2, es 3, if_neg (by omega), if_neg (by omega), if_pos c2.symm, if_neg (by omega), e 0 (by omega), e 1 (by omega), e 3 (by omega), H4_23]
    exact fun z => one 0 1 3 (by omega) (by omega) (by omega) d4 (by omega)
  · refine fin a an ?_
    rw [es 0, es 1, es 2, es a, if_neg (by omega), if_neg (by omega), if_neg (by omega), if_pos rfl, e 0 (by omega), e 1 (by omega), e 2 (by omega)]
    exact one 0 1 2 (by omega) (by omega) (by omega) d1
theorem Box.same {H H' : Hp} {L : Addr} (h : Box H L) (s : Same H H') : Box H' L := by
  obtain ⟨m, hm⟩ := h
  exact ⟨m, s _ _ hm⟩
theorem Box.upd {H : Hp} {L a : Addr} {o : HO} (h : Box H L) (n : a ≠ L) : Box (L2.upd H a o) L := by
  obtain ⟨m, hm⟩ := h
  exact ⟨m, by rw [upd_ne (Ne.symm n)]; exact hm⟩
theorem Box.ne {H : Hp} {L a : Addr} (h : Box H L) (n : H a = none) : a ≠ L := by
  obtain ⟨m, hm⟩ := h
  exact Ne.symm (ne_of_none hm n)
theorem Pm.keepB {H : Hp} {L : Addr} {way j : Int} {J J' : Hp} {l : Addr} {rs : List Addr} {vs : List Tri} {n a : Nat} (h : Pm H L way j J l rs vs n a) (s : SameB L J J') (b : Box J' L) : Pm H L way j J' l rs vs n a :=
  ⟨h.sb.trans s, b, h.ne, h.hn, s _ _ h.ne h.hl, h.pl.keep (SameB.t s h.bx), h.an, h.w0, h.w1, h.ob, h.bt⟩
theorem Pm.step {H : Hp} {L : Addr} {way j : Int} {J J' : Hp} {l l' : Addr} {rs rs' : List Addr} {vs vs' : List Tri} {n a : Nat} (h : Pm H L way j J l rs vs n a) (c : way = j) (c1 : 1 ≤ way) (c8 : way ≤ 8) (sb : SameB L H J') (b : Box J' L) (ne : l' ≠ L) (hn : H l' = none) (hl : J' l' = some (.lst (rs'.map V.ref))) (pl : Plc J' rs' vs') (ob : OB vs' = true) : Pm H L way (j + 1) J' l' rs' vs' n a :=
  ⟨sb, b, ne, hn, hl, pl, h.an, h.w0, h.w1, fun _ _ _ => ob, fun k => absurd ⟨c1, c8, by omega⟩ k⟩
theorem map_ins {rs : List Addr} {i : Nat} {x : Addr} : (rs.map V.ref).take i ++ V.ref x :: (rs.map V.ref).drop i = (rs.take i ++ x :: rs.drop i).map V.ref := by
  rw [List.map_append, List.map_cons, List.map_take, List.map_drop]
theorem Pm.inserted {H : Hp} {L : Addr} {way j : Int} {J J' : Hp} {l : Addr} {rs : List Addr} {n a : Nat} (h : Pm H L way j J l rs (bent n) n a) (s : SameB L J J') (b : Box J' L) {x : Addr} {v : Tri} (hx : J' x = some (.tup [.int v.x, .int v.y, .int v.z])) {i : Nat} (c : way = j) (c1 : 1 ≤ way) (c8 : way ≤ 8) (ob : OB (ins (bent n) i v) = true) :
    Pm H L way (j + 1) (L2.upd J' l (.lst ((rs.map V.ref).take i ++ V.ref x :: (rs.map V.ref).drop i))) l (rs.take i ++ x :: rs.drop i) (ins (bent n) i v) n a := by
  have h' := h.keepB s b
  have u : SameT J' (L2.upd J' l (.lst ((rs.map V.ref).take i ++ V.ref x :: (rs.map V.ref).drop i))) := SameT.upd h'.hl
  refine h.step c c1 c8 (h'.sb.acc h.hn) (b.upd h.ne) h.ne h.hn (by rw [map_ins]; exact upd_same) ?_ ob
  exact ((h'.pl.take i).app (.cons hx (h'.pl.drop i))).keep u
theorem ad_get' {rs : List Addr} {i : Nat} (h : i < rs.length) : (rs.map V.ref)[i]? = some (.ref (ad rs i)) := by
  unfold ad
  rw [List.getElem?_map, List.getElem?_eq_getElem h, List.getD_eq_getElem?_getD, List.getElem?_eq_getElem h]
  rfl
theorem ixN_nat {n i : Nat} (h : i < n) : ixN n (i : Int) = some i := by
  unfold ixN
  simp [h]
theorem ixN_pr {n i : Nat} (h : i < n) : ixN n ((i : Int) - 1) = some ((i + (n - 1)) % n) := by
  unfold ixN
  by_cases c : i = 0
  · subst c
    rw [if_neg (by omega), if_pos (by omega), Nat.zero_add, Nat.mod_eq_of_lt (by omega)]
    congr 1
    omega
  · rw [if_pos (by omega), if_pos (by omega)]
    congr 1
    have : (i + (n - 1)) % n = i - 1 := by
      rw [show i + (n - 1) = (i - 1) + n by omega, Nat.add_mod_right, Nat.mod_eq_of_lt (by omega)]
    omega
theorem atI_pr {rs : List Addr} {n i : Nat} (hl : rs.length = n) (h : i < n) : atI (rs.map V.ref) ((i : Int) - 1) = some (.ref (ad rs ((i + (n - 1)) % n))) := by
  unfold atI
  rw [List.length_map, hl, ixN_pr h]
  exact ad_get' (by rw [hl]; exact Nat.mod_lt _ (by omega))
theorem ok_spoilt (T : Tx K mg t1 t2) (F : At K mg "_law_spoilt" s__law_spoilt ["left", "sheet", "way"] []) (d__law_bent : DefOk P w K mg base CX0 1 "_law_bent" ["many"] [] spBent) (d__law_next : DefOk P w K mg base CX0 1 "_law_next" ["left", "base"] [] spNext) (d__law_within : DefOk P w K mg base CX0 1 "_law_within" ["shape"] [] spWithin) (d__law_spot : DefOk P w K mg base CX0 3 "_law_spot" ["sheet", "place"] [] spSpot) (d__law_lifted : DefOk P w K mg base CX0 3 "_law_lifted" ["spot", "sheet"] [] spLifted) : DefOk P w K mg base CX0 4 "_law_spoilt" ["left", "sheet", "way"] [] spSpoilt := by
  refine F.ok sc__law_spoilt (fun vs H Q E h => ?_) (fun f cdv A outer s H vs Q E hr h => ?_)
  · obtain ⟨L, zt, Z, way, rfl, _⟩ := h
    rfl
  obtain ⟨L, zt, Z, way, rfl, hL, hZ, wa, wb, q⟩ := h
  have S := sc__law_spoilt
  obtain ⟨_, _, _, _, _, _, _, w1', _, nz'⟩ := id hZ
  refine ⟨_, (pss_cut (pM0 H L Z zt way) (ps_set (i := 3) S.nd rfl (Or.inr rfl) (pe_callD d__law_bent (hr.mono (by decide)) rfl pass0 (pa_cons (pe_ix ix_list (pe_lst (pa_cons (pe_op op_add pe_int (pe_callD d__law_next (hr.mono (by decide)) rfl pass0 (pa_cons (pv 0) (pa_cons pe_int pa_nil se_con) se_nam))) (pa_cons (pe_op op_add pe_int (pe_callD d__law_next (hr.mono (by decide)) rfl pass0 (pa_cons (pv 0) (pa_cons pe_int pa_nil se_con) se_nam))) pa_nil se_bin) se_bin)) (pe_callTy call_int1 rfl T.m_int boot_int (pa_cons (pe_cmpR op_gt (pv 2) pe_int (nomark _)) pa_nil se_cmpr)) (fun _ _ => rfl)) pa_nil se_sub)))
    (pss_cut (pM H L Z zt way 1) (ps_set (i := 4) S.nd rfl (Or.inr rfl) (pe_callD d__law_next (hr.mono (by decide)) rfl pass0 (pa_cons (pv 0) (pa_cons (pe_callB call_len_seq rfl T.m_len PySem.boot_len (pa_cons (pv 3) pa_nil se_nam)) pa_nil se_cal) se_nam)))
    (pss_cut (pM H L Z zt way 2) (ps_if (pt_cmpR op_eq (pv 2) pe_int (nomark _))
    (pss_one (ps_set (i := 3) S.nd rfl (Or.inr rfl) (pe_slice sl_list (pv 3) po_none (po_some (pe_callD d__law_next (hr.mono (by decide)) rfl pass0 (pa_cons (pv 0) (pa_cons pe_int pa_nil se_con) se_nam))))))
    pss_nil)
    (pss_cut (pM H L Z zt way 3) (ps_if (pt_cmpR op_eq (pv 2) pe_int (nomark _))
    (pss_one (ps_expr (pe_bm PySem.F.plainAttrs_list PySem.F.slot_list_insert PySem.F.type_list_insert mt_insert (pv 3) (pa_cons (pv 4) (pa_cons (pe_callTy call_tuple_of rfl T.m_tuple boot_tuple (pa_cons (pe_comp rfl (N' := ["j", "shape", "at"]) (ix := [3, 4]) ⟨rfl, rfl, by decide +kernel, by decide +kernel, rfl, by decide +kernel, (show ∀ y : Str × NameKind, y ∈ _ → y.2 = NameKind.free → (defScope s__law_spoilt).names.lookup y.1 = some .cell ∨ (defScope s__law_spoilt).names.lookup y.1 = some .free from by decide +kernel), (.cons rfl (.inl rfl) rfl (.cons rfl (.inl rfl) rfl .nil))⟩ (pi_range1 rfl T.m_range (pa_cons pe_int pa_nil se_con)) (fun _ _ _ _ => pg_name (i := 0) (show (["j", "shape", "at"] : List Str).Nodup from by decide +kernel) rfl (Or.inl rfl)) (fun _ _ _ _ => pts_nil) (fun _ _ _ _ => (pe_op op_add (pe_ix (ix_tupK (K := K) rfl) (pe_ix (ix_listK (K := K) rfl) (pv 1) (pv 2) (fun _ _ => rfl)) (pv 0) (fun _ _ => rfl)) (pe_ix (ix_tupK (K := K) rfl) (pe_ix (ix_listK (K := K) rfl) (pv 1) (pe_op op_sub (pv 2) pe_int) (fun _ _ => rfl)) (pv 0) (fun _ _ => rfl))))) pa_nil se_cmp)) pa_nil se_cal) se_nam))))
    pss_nil)
    (pss_cut (pM H L Z zt way 4) (ps_if (pt_cmpR op_eq (pv 2) pe_int (nomark _))
    (pss_one (ps_expr (pe_bm PySem.F.plainAttrs_list PySem.F.slot_list_insert PySem.F.type_list_insert mt_insert (pv 3) (pa_cons (pv 4) (pa_cons (pe_callD d__law_within (hr.mono (by decide)) rfl pass0 (pa_cons (pv 3) pa_nil se_nam)) pa_nil se_cal) se_nam))))
    pss_nil)
    (pss_cut (pM H L Z zt way 5) (ps_if (pt_cmpR op_eq (pv 2) pe_int (nomark _))
    (pss_one (ps_expr (pe_bm PySem.F.plainAttrs_list PySem.F.slot_list_insert PySem.F.type_list_insert mt_insert (pv 3) (pa_cons (pe_callD d__law_next (hr.mono (by decide)) rfl pass0 (pa_cons (pv 0) (pa_cons (pe_callB call_len_seq rfl T.m_len PySem.boot_len (pa_cons (pv 3) pa_nil se_nam)) pa_nil se_cal) se_nam)) (pa_cons (pe_ix ix_list (pv 3) (pv 4) (fun _ _ => rfl)) pa_nil se_sub) se_cal))))
    pss_nil)
    (pss_cut (pM H L Z zt way 6) (ps_if (pt_cmpR op_eq (pv 2) pe_int (nomark _))
    (pss_one (ps_asg (pe_tup (pa_cons (pe_ix ix_list (pv 3) (pe_op op_sub (pv 4) pe_int) (fun _ _ => rfl)) (pa_cons (pe_ix ix_list (pv 3) (pv 4) (fun _ _ => rfl)) pa_nil se_sub) se_sub)) (pg_tup rfl (pgs_cons (pg_sub (pv 3) (pv 4) set_list) (pgs_cons (pg_sub (pv 3) (pe_op op_sub (pv 4) pe_int) set_list) pgs_nil)))))
    pss_nil)
    (pss_cut (pM H L Z zt way 7) (ps_if (pt_cmpR op_eq (pv 2) pe_int (nomark _))
    (pss_one (ps_set (i := 3) S.nd rfl (Or.inr rfl) (pe_comp rfl (N' := ["k"]) (ix := []) ⟨rfl, rfl, by decide +kernel, by decide +kernel, rfl, by decide +kernel, (show ∀ y : Str × NameKind, y ∈ _ → y.2 = NameKind.free → (defScope s__law_spoilt).names.lookup y.1 = some .cell ∨ (defScope s__law_spoilt).names.lookup y.1 = some .free from by decide +kernel), .nil⟩ (pi_range1 rfl T.m_range (pa_cons pe_int pa_nil se_con)) (fun _ _ _ _ => pg_name (i := 0) (show (["k"] : List Str).Nodup from by decide +kernel) rfl (Or.inl rfl)) (fun _ _ _ _ => pts_nil) (fun _ _ _ _ => (pe_ix (ix_listK (K := K) rfl) (pe_callD d__law_bent (hr.mono (by decide)) rfl pass0 (pa_cons pe_int pa_nil se_con)) (pe_op op_mod (pe_op op_mulB pe_int (pv 0)) pe_int) (fun _ _ => rfl))))))
    pss_nil)
    (pss_cut (pM H L Z zt way 8) (ps_if (pt_cmpR op_eq (pv 2) pe_int (nomark _))
    (pss_one (ps_set (i := 3) S.nd rfl (Or.inr rfl) (pe_comp rfl (N' := ["k"]) (ix := []) ⟨rfl, rfl, by decide +kernel, by decide +kernel, rfl, by decide +kernel, (show ∀ y : Str × NameKind, y ∈ _ → y.2 = NameKind.free → (defScope s__law_spoilt).names.lookup y.1 = some .cell ∨ (defScope s__law_spoilt).names.lookup y.1 = some .free from by decide +kernel), .nil⟩ (pi_range1 rfl T.m_range (pa_cons (pe_callB call_len_seq rfl T.m_len PySem.boot_len (pa_cons (pv 3) pa_nil se_nam)) pa_nil se_cal)) (fun _ _ _ _ => pg_name (i := 0) (show (["k"] : List Str).Nodup from by decide +kernel) rfl (Or.inl rfl)) (fun _ _ _ _ => pts_nil) (fun _ _ _ _ => (pe_tup (pa_cons (pv 0) (pa_cons (pe_op op_mulB pe_int (pv 0)) (pa_cons pe_int pa_nil se_con) se_bin) se_nam))))))
    pss_nil)
    (pss_cut (pM H L Z zt way 9) (ps_if (pt_cmpR op_eq (pv 2) pe_int (nomark _))
    (pss_one (ps_set (i := 3) S.nd rfl (Or.inr rfl) (pe_comp rfl (N' := ["place", "shape", "at"]) (ix := [3, 4]) ⟨rfl, rfl, by decide +kernel, by decide +kernel, rfl, by decide +kernel, (show ∀ y : Str × NameKind, y ∈ _ → y.2 = NameKind.free → (defScope s__law_spoilt).names.lookup y.1 = some .cell ∨ (defScope s__law_spoilt).names.lookup y.1 = some .free from by decide +kernel), (.cons rfl (.inl rfl) rfl (.cons rfl (.inl rfl) rfl .nil))⟩ (pi_list (pv 3)) (fun _ _ _ _ => pg_name (i := 0) (show (["place", "shape", "at"] : List Str).Nodup from by decide +kernel) rfl (Or.inl rfl)) (fun _ _ _ _ => pts_nil) (fun _ _ _ _ => (pe_ix (ix_listK (K := K) rfl) (pv 1) (pv 2) (fun _ _ => rfl))))))
    pss_nil)
    (pss_cut (pM2 H L Z zt way) (ps_asg (pe_ix ix_list (pe_lst (pa_cons (pe_tup (pa_cons pe_int (pa_cons pe_int pa_nil se_con) se_con)) (pa_cons (pe_tup (pa_cons pe_int (pa_cons pe_int pa_nil se_con) se_con)) (pa_cons (pe_tup (pa_cons pe_int (pa_cons pe_int pa_nil se_con) se_con)) pa_nil se_tup) se_tup) se_tup)) (pe_callD d__law_next (hr.mono (by decide)) rfl pass0 (pa_cons (pv 0) (pa_cons pe_int pa_nil se_con) se_nam)) (fun _ _ => rfl)) (pg_tup rfl (pgs_cons (pg_name (i := 5) S.nd rfl (Or.inr rfl)) (pgs_cons (pg_name (i := 6) S.nd rfl (Or.inr rfl)) pgs_nil))))
    (pss_cut (pM3 H L Z zt way) (ps_setCompM (i := 7) rfl S.nd rfl rfl (N' := ["p", "q", "r", "sheet", "s", "t"]) (ix := [1, 5, 6]) (xs0 := ["p", "q", "r"]) ⟨rfl, rfl, by decide +kernel, by decide +kernel, by decide +kernel, (show ∀ y : Str × NameKind, y ∈ _ → y.2 = NameKind.free → (defScope s__law_spoilt).names.lookup y.1 = some .cell ∨ (defScope s__law_spoilt).names.lookup y.1 = some .free from by decide +kernel), (.cons rfl (.inl rfl) rfl (.cons rfl (.inl rfl) rfl (.cons rfl (.inl rfl) rfl .nil)))⟩ (pi_list (pv 3)) (fun _ _ _ _ => pg_tupK (K := K) (n := 3) rfl rfl (pgs_cons (pg_name (i := 0) (show (["p", "q", "r", "sheet", "s", "t"] : List Str).Nodup from by decide +kernel) rfl (Or.inl rfl)) (pgs_cons (pg_name (i := 1) (show (["p", "q", "r", "sheet", "s", "t"] : List Str).Nodup from by decide +kernel) rfl (Or.inl rfl)) (pgs_cons (pg_name (i := 2) (show (["p", "q", "r", "sheet", "s", "t"] : List Str).Nodup from by decide +kernel) rfl (Or.inl rfl)) pgs_nil)))) (fun _ _ _ _ => pts_nil) (fun _ _ _ _ => (pe_callD d__law_spot (hr.mono (by decide)) rfl pass0 (pa_cons (pv 3) (pa_cons (pe_tup (pa_cons (pe_op op_mulB (pv 0) (pv 4)) (pa_cons (pe_op op_mulB (pv 1) (pv 5)) (pa_cons (pe_op op_mulB (pe_op op_mulB (pv 2) (pv 4)) (pv 5)) pa_nil se_bin) se_bin) se_bin)) pa_nil se_tup) se_nam))))
    (pss_cut (pM4 H L) (ps_if (pt_cmpR op_eq (pv 2) pe_int (nomark _))
    (pss_one (ps_asg (pe_callD d__law_lifted (hr.mono (by decide)) rfl pass0 (pa_cons (pe_ix ix_list (pv 7) (pv 4) (fun _ _ => rfl)) (pa_cons (pv 1) pa_nil se_nam) se_sub)) (pg_sub (pv 7) (pv 4) set_list)))
    pss_nil)
    (pss_one (ps_ret (pv 7)))))))))))))))), ?_⟩
  refine ⟨?_, fun σ0 J0 hM0 => ⟨?_, fun σ1 J1 hM1 => ⟨?_, fun σ2 J2 hM2 => ⟨?_, fun σ3 J3 hM3 => ⟨?_, fun σ4 J4 hM4 => ⟨?_, fun σ5 J5 hM5 => ⟨?_, fun σ6 J6 hM6 => ⟨?_, fun σ7 J7 hM7 => ⟨?_, fun σ8 J8 hM8 => ⟨?_, fun σ9 J9 hM9 => ⟨?_, fun σa Ja hMa => ⟨?_, fun σb Jb hMb => ⟨?_, fun σc Jc hMc => ?_⟩⟩⟩⟩⟩⟩⟩⟩⟩⟩⟩⟩⟩
  · try walk_at "rf"
    obtain ⟨m, hm⟩ := id hL
    have f4 : Fit 4 := Bd.fit (n := 3) (by unfold Bd; decide)
    refine ⟨L, 4, m, rfl, hm, by decide, f4, _, rfl, L, 4, m / 4, rfl, upd_same, by decide, f4, _, rfl, by decide, fun p hp => ?_⟩
    have x0 := Int.emod_nonneg m (show (4 : Int) ≠ 0 by decide)
    have x1 := Int.emod_lt_of_pos m (show (0 : Int) < 4 by decide)
    have y0 := Int.emod_nonneg (m / 4) (show (4 : Int) ≠ 0 by decide)
    have y1 := Int.emod_lt_of_pos (m / 4) (show (0 : Int) < 4 by decide)
    have sb : SameB L H (upd (upd H L (.lst [.int (m / 4)])) L (.lst [.int (m / 4 / 4)])) := SameB.set.trans SameB.set
    have bx : Box (upd (upd H L (.lst [.int (m / 4)])) L (.lst [.int (m / 4 / 4)])) L := ⟨_, upd_same⟩
    generalize upd (upd H L (.lst [.int (m / 4)])) L (.lst [.int (m / 4 / 4)]) = H2 at sb bx hp ⊢
    generalize m % 4 = x at x0 x1 ⊢
    generalize m / 4 % 4 = y at y0 y1 ⊢
    have s3 := Same.new hp (.lst [.int (9 + x), .int (4 + y)])
    have e3 : upd H2 p (.lst [.int (9 + x), .int (4 + y)]) p = some (.lst [.int (9 + x), .int (4 + y)]) := upd_same
    have bx3 : Box (upd H2 p (.lst [.int (9 + x), .int (4 + y)])) L := by
      obtain ⟨m', hm'⟩ := bx
      exact ⟨m', s3 _ _ hm'⟩
    generalize upd H2 p (.lst [.int (9 + x), .int (4 + y)]) = H3 at s3 e3 bx3 ⊢
    obtain ⟨nn, en, e4⟩ : ∃ nn : Nat, atI [V.int (9 + x), V.int (4 + y)] (if 0 < way then 1 else 0) = some (.int (nn : Int)) ∧ (way = 0 → 9 ≤ nn ∧ nn ≤ 12) ∧ (1 ≤ way → 4 ≤ nn ∧ nn ≤ 7) := by
      by_cases c : 0 < way
      · rw [if_pos c]
        refine ⟨(4 + y).toNat, ?_, by omega, by omega⟩
        rw [Int.toNat_of_nonneg (by omega)]
        rfl
      · rw [if_neg c]
        refine ⟨(9 + x).toNat, ?_, by omega, by omega⟩
        rw [Int.toNat_of_nonneg (by omega)]
        rfl
    refine ixL (SqL.of e3) en ⟨nn, rfl, by omega, fun l rs H4 hn4 s4 e4' hP => ?_⟩
    have bx4 : Box H4 L := by
      obtain ⟨m', hm'⟩ := bx3
      exact ⟨m', s4 _ _ hm'⟩
    have nl : l ≠ L := by
      obtain ⟨m', hm'⟩ := bx3
      exact Ne.symm (ne_of_none hm' hn4)
    exact ⟨l, rs, bent nn, nn, rfl, ⟨sb.trans (s3.trans s4).b, bx4, nl, SameB.none (sb.trans s3.b) nl hn4, e4', hP, by omega, e4.1, e4.2, by omega, fun _ => rfl⟩⟩
  · obtain ⟨l, rs, vs, n, rfl, h⟩ := hM0
    try walk_at "rf"
    have eb := h.bt (by omega)
    subst eb
    have lr : (rs.map V.ref).length = n := by rw [List.length_map, h.pl.len, bent_len]
    have n12 : 4 ≤ n ∧ n ≤ 12 := by
      by_cases c : way = 0
      · have := h.w0 c; omega
      · have := h.w1 (by omega); omega
    refine ⟨_, .inl (SqL.of h.hl), ?_⟩
    rw [lr]
    obtain ⟨m, hm⟩ := id h.bx
    have m0 := Int.emod_nonneg m (show (n : Int) ≠ 0 by omega)
    have m1 := Int.emod_lt_of_pos m (show (0 : Int) < (n : Int) by omega)
    refine ⟨L, (n : Int), m, rfl, hm, by omega, Bd.fit (n := 5) (by unfold Bd; omega), ?_⟩
    have hk := h.keepB (J' := upd J0 L (.lst [.int (m / (n : Int))])) SameB.set ⟨_, upd_same⟩
    refine ⟨l, rs, bent n, n, (m % (n : Int)).toNat, by rw [Int.toNat_of_nonneg m0], ⟨hk.sb, hk.bx, hk.ne, hk.hn, hk.hl, hk.pl, by omega, hk.w0, hk.w1, hk.ob, hk.bt⟩⟩
  · obtain ⟨l, rs, vs, n, a, rfl, h⟩ := hM1
    try walk_at "rf"
    refine ite2 (fun c0 => ?_) fun c0 => ⟨l, rs, vs, n, a, rfl, h.skip c0⟩
    have eb := h.bt (by omega)
    subst eb
    obtain ⟨n4, n7⟩ := h.w1 (by omega)
    have an := h.an
    have lr : rs.length = n := by rw [h.pl.len, bent_len]
    have lm : (rs.map V.ref).length = n := by rw [List.length_map, lr]
    have kl : SqL K J1 l (rs.map V.ref) := SqL.of h.hl
    obtain ⟨m, hm⟩ := id h.bx
    have m0 := Int.emod_nonneg m (show (3 : Int) ≠ 0 by decide)
    have m1 := Int.emod_lt_of_pos m (show (0 : Int) < 3 by decide)
    have hk := h.keepB (J' := upd J1 L (.lst [.int (m / 3)])) SameB.set ⟨_, upd_same⟩
    refine ⟨L, 3, m, rfl, hm, by decide, Bd.fit (n := 3) (by unfold Bd; decide), _, rfl, l, _, rfl, SqL.of hk.hl, fun p hp => ?_⟩
    obtain ⟨k, hk'⟩ : ∃ k : Nat, m % 3 = (k : Int) := ⟨(m % 3).toNat, by omega⟩
    rw [hk', cut_take]
    have s1 := Same.new hp (.lst ((rs.map V.ref).take k))
    have pn := hk.bx.ne hp
    refine ⟨p, rs.take k, (bent n).take k, n, a, rfl, hk.step c0 (by omega) (by omega) (hk.sb.trans s1.b) (hk.bx.same s1) pn (SameB.none hk.sb pn hp) (by rw [List.map_take]; exact upd_same) ((hk.pl.take k).keep s1.t) (ob1 n (by omega) n4 k (by omega))⟩
  · obtain ⟨l, rs, vs, n, a, rfl, h⟩ := hM2
    try walk_at "rf"
    refine ite2 (fun c0 => ?_) fun c0 => ⟨l, rs, vs, n, a, rfl, h.skip c0⟩
    have eb := h.bt (by omega)
    subst eb
    obtain ⟨n4, n7⟩ := h.w1 (by omega)
    have an := h.an
    have lr : rs.length = n := by rw [h.pl.len, bent_len]
    have lm : (rs.map V.ref).length = n := by rw [List.length_map, lr]
    have kl : SqL K J2 l (rs.map V.ref) := SqL.of h.hl
    refine ⟨.inl ⟨_, kl⟩, by decide, by decide, fun acc hacc => compR (n := 3) (fun j => .int (cmp j (addT (tr (bent n) a) (tr (bent n) ((a + (n - 1)) % n))))) (by decide) hacc (fun j H3 R hj s3 hR => ?_) fun H3 s3 e3 => ?_⟩
    · have kl3 := s3.seq kl
      have hP3 := h.pl.keep s3.t
      obtain ⟨g1, g2⟩ := hP3.at (i := a) (by rw [bent_len]; exact an)
      obtain ⟨g3, g4⟩ := hP3.at (i := (a + (n - 1)) % n) (by rw [bent_len]; exact Nat.mod_lt _ (by omega))
      have kt : SqT K H3 (ad rs a) [.int (tr (bent n) a).x, .int (tr (bent n) a).y, .int (tr (bent n) a).z] := SqT.of g2
      have kt2 : SqT K H3 (ad rs ((a + (n - 1)) % n)) [.int (tr (bent n) ((a + (n - 1)) % n)).x, .int (tr (bent n) ((a + (n - 1)) % n)).y, .int (tr (bent n) ((a + (n - 1)) % n)).z] := SqT.of g4
      have hRR := hR H3 (Same.refl _)
      match j, hj, hRR with
      | 0, _, hRR => (try walk_at "rf"); exact ixL kl3 (atI_nat g1) (ixT kt (i := 0) rfl (ixL kl3 (atI_pr lr an) (ixT kt2 (i := 0) rfl ⟨_, rfl, _, rfl, hRR⟩)))
      | 1, _, hRR => (try walk_at "rf"); exact ixL kl3 (atI_nat g1) (ixT kt (i := 1) rfl (ixL kl3 (atI_pr lr an) (ixT kt2 (i := 1) rfl ⟨_, rfl, _, rfl, hRR⟩)))
      | 2, _, hRR => (try walk_at "rf"); exact ixL kl3 (atI_nat g1) (ixT kt (i := 2) rfl (ixL kl3 (atI_pr lr an) (ixT kt2 (i := 2) rfl ⟨_, rfl, _, rfl, hRR⟩)))
    · refine ⟨_, .inl ⟨SqL.of e3, fun x hx => ?_⟩⟩
      have s4 := Same.new hx (.tup (List.map (fun j => V.int (cmp j (addT (tr (bent n) a) (tr (bent n) ((a + (n - 1)) % n))))) (List.range 3)))
      have s34 := s3.trans s4
      refine ⟨l, _, _, a, rfl, rfl, s34 _ _ h.hl, by rw [lm]; omega, lt_line (by rw [lm]; omega), by omega, ?_⟩
      exact ⟨l, _, _, n, a, rfl, h.inserted (v := addT (tr (bent n) a) (tr (bent n) ((a + (n - 1)) % n))) s34.b (h.bx.same s34) upd_same c0 (by omega) (by omega) (ob2 n (by omega) n4 a an)⟩
  · obtain ⟨l, rs, vs, n, a, rfl, h⟩ := hM3
    try walk_at "rf"
    refine ite2 (fun c0 => ?_) fun c0 => ⟨l, rs, vs, n, a, rfl, h.skip c0⟩
    have eb := h.bt (by omega)
    subst eb
    obtain ⟨n4, n7⟩ := h.w1 (by omega)
    have an := h.an
    have lr : rs.length = n := by rw [h.pl.len, bent_len]
    have lm : (rs.map V.ref).length = n := by rw [List.length_map, lr]
    have kl : SqL K J3 l (rs.map V.ref) := SqL.of h.hl
    refine ⟨.inl ⟨_, kl⟩, l, rs, n, rfl, h.hl, h.pl, n4, n7, fun x H3 s3 e3 => ?_⟩
    refine ⟨l, _, _, a, rfl, rfl, s3 _ _ h.hl, by rw [lm]; omega, lt_line (by rw [lm]; omega), by omega, ?_⟩
    exact ⟨l, _, _, n, a, rfl, h.inserted (v := sumT (bent n)) s3.b (h.bx.same s3) e3 c0 (by omega) (by omega) (ob3 n (by omega) n4 a an)⟩
  · obtain ⟨l, rs, vs, n, a, rfl, h⟩ := hM4
    try walk_at "rf"
    refine ite2 (fun c0 => ?_) fun c0 => ⟨l, rs, vs, n, a, rfl, h.skip c0⟩
    have eb := h.bt (by omega)
    subst eb
    obtain ⟨n4, n7⟩ := h.w1 (by omega)
    have an := h.an
    have lr : rs.length = n := by rw [h.pl.len, bent_len]
    have lm : (rs.map V.ref).length = n := by rw [List.length_map, lr]
    have kl : SqL K J4 l (rs.map V.ref) := SqL.of h.hl
    obtain ⟨m, hm⟩ := id h.bx
    have m0 := Int.emod_nonneg m (show (n : Int) ≠ 0 by omega)
    have m1 := Int.emod_lt_of_pos m (show (0 : Int) < (n : Int) by omega)
    refine ⟨.inl ⟨_, kl⟩, _, .inl kl, ?_⟩
    rw [lm]
    refine ⟨L, (n : Int), m, rfl, hm, by omega, Bd.fit (n := 5) (by unfold Bd; omega), ?_⟩
    have hk := h.keepB (J' := upd J4 L (.lst [.int (m / (n : Int))])) SameB.set ⟨_, upd_same⟩
    obtain ⟨k, hk'⟩ : ∃ k : Nat, m % (n : Int) = (k : Int) := ⟨(m % (n : Int)).toNat, by omega⟩
    rw [hk']
    obtain ⟨g1, g2⟩ := hk.pl.at (i := a) (by rw [bent_len]; exact an)
    refine ixL (SqL.of hk.hl) (atI_nat g1) ⟨l, _, _, k, rfl, rfl, hk.hl, by rw [lm]; omega, lt_line (by rw [lm]; omega), by omega, ?_⟩
    exact ⟨l, _, _, n, a, rfl, hk.inserted (v := tr (bent n) a) (fun _ _ _ z => z) hk.bx g2 c0 (by omega) (by omega) (ob4 n (by omega) n4 a an k (by omega))⟩
  · obtain ⟨l, rs, vs, n, a, rfl, h⟩ := hM5
    try walk_at "rf"
    refine ite2 (fun c0 => ?_) fun c0 => ⟨l, rs, vs, n, a, rfl, h.skip c0⟩
    have eb := h.bt (by omega)
    subst eb
    obtain ⟨n4, n7⟩ := h.w1 (by omega)
    have an := h.an
    have lr : rs.length = n := by rw [h.pl.len, bent_len]
    have lm : (rs.map V.ref).length = n := by rw [List.length_map, lr]
    have kl : SqL K J5 l (rs.map V.ref) := SqL.of h.hl
    have pn : (a + (n - 1)) % n < n := Nat.mod_lt _ (by omega)
    obtain ⟨g1, g2⟩ := h.pl.at (i := a) (by rw [bent_len]; exact an)
    obtain ⟨g3, g4⟩ := h.pl.at (i := (a + (n - 1)) % n) (by rw [bent_len]; exact pn)
    refine ixL kl (atI_pr lr an) (ixL kl (atI_nat g1) ⟨by decide, fun p hp => ⟨_, SqT.of upd_same, rfl, _, _, rfl, ?_⟩⟩)
    have s1 := Same.new hp (.tup [V.ref (ad rs ((a + (n - 1)) % n)), V.ref (ad rs a)])
    generalize upd J5 p (.tup [V.ref (ad rs ((a + (n - 1)) % n)), V.ref (ad rs a)]) = H1 at s1 ⊢
    have h1 := h.keepB s1.b (h.bx.same s1)
    unfold gSub
    try walk_at "rf"
    refine ⟨l, _, _, a, rfl, rfl, h1.hl, by rw [lm]; exact ixN_nat an, ?_⟩
    refine ⟨l, _, _, (a + (n - 1)) % n, rfl, rfl, upd_same, by rw [List.length_set, lm]; exact ixN_pr an, ?_⟩
    have u1 : SameT H1 (upd H1 l (.lst ((rs.map V.ref).set a (V.ref (ad rs ((a + (n - 1)) % n)))))) := SameT.upd h1.hl
    have u2 : SameT (upd H1 l (.lst ((rs.map V.ref).set a (V.ref (ad rs ((a + (n - 1)) % n)))))) (upd (upd H1 l (.lst ((rs.map V.ref).set a (V.ref (ad rs ((a + (n - 1)) % n)))))) l (.lst (((rs.map V.ref).set a (V.ref (ad rs ((a + (n - 1)) % n)))).set ((a + (n - 1)) % n) (V.ref (ad rs a))))) := SameT.upd upd_same
    have em : ((rs.map V.ref).set a (V.ref (ad rs ((a + (n - 1)) % n)))).set ((a + (n - 1)) % n) (V.ref (ad rs a)) = ((rs.set a (ad rs ((a + (n - 1)) % n))).set ((a + (n - 1)) % n) (ad rs a)).map V.ref := by rw [List.map_set, List.map_set]
    have pl1 : Plc H1 ((rs.set a (ad rs ((a + (n - 1)) % n))).set ((a + (n - 1)) % n) (ad rs a)) (swp (bent n) a ((a + (n - 1)) % n)) := (h1.pl.set a _ _ (s1 _ _ g4)).set _ _ _ (s1 _ _ g2)
    have R := h1.step (J' := upd (upd H1 l (.lst ((rs.map V.ref).set a (V.ref (ad rs ((a + (n - 1)) % n)))))) l (.lst (((rs.map V.ref).set a (V.ref (ad rs ((a + (n - 1)) % n)))).set ((a + (n - 1)) % n) (V.ref (ad rs a))))) c0 (by omega) (by omega) ((h1.sb.acc h.hn).acc h.hn) ((h1.bx.upd h.ne).upd h.ne) h.ne h.hn (by rw [em]; exact upd_same) (pl1.keep (u1.trans u2)) (ob5 n (by omega) n4 a an)
    first | exact ⟨l, _, _, n, a, rfl, R⟩ | exact ⟨rfl, l, _, _, n, a, rfl, R⟩
  · obtain ⟨l, rs, vs, n, a, rfl, h⟩ := hM6
    try walk_at "rf"
    refine ite2 (fun c0 => ?_) fun c0 => ⟨l, rs, vs, n, a, rfl, h.skip c0⟩
    have eb := h.bt (by omega)
    subst eb
    obtain ⟨n4, n7⟩ := h.w1 (by omega)
    have an := h.an
    have lr : rs.length = n := by rw [h.pl.len, bent_len]
    have lm : (rs.map V.ref).length = n := by rw [List.length_map, lr]
    have kl : SqL K J6 l (rs.map V.ref) := SqL.of h.hl
    refine ⟨by decide, by decide, fun acc hacc => compRq (n := 5) (fun i y H => ∃ r : Addr, y = .ref r ∧ H r = some (.tup [.int (tr (bent 5) (2 * i % 5)).x, .int (tr (bent 5) (2 * i % 5)).y, .int (tr (bent 5) (2 * i % 5)).z])) (fun i y H H' hp st => by obtain ⟨r, h1, h2⟩ := hp; exact ⟨r, h1, st _ _ h2⟩) (by decide) hacc (fun i H3 R hi s3 hR => ?_) fun ys H3 s3 e3 l3 p3 => ?_⟩
    · try walk_at "rf"
      refine ⟨5, rfl, by decide, fun l' rs' H4 hn4 s4 e4 hP4 => ?_⟩
      try walk_at "rf"
      obtain ⟨g1, g2⟩ := hP4.at (i := 2 * i % 5) (by rw [bent_len]; exact Nat.mod_lt _ (by decide))
      have ei : (2 * (0 + (i : Int))) % 5 = ((2 * i % 5 : Nat) : Int) := by omega
      rw [ei]
      exact ⟨Bd.fit (n := 3) (by unfold Bd; decide), Bd.fit (n := 5) (by unfold Bd; omega), by decide, ixL (SqL.of e4) (atI_nat g1) (hR _ _ s4 ⟨_, rfl, g2⟩)⟩
    · obtain ⟨rs', rfl, hP⟩ := plc_of ys ((List.range 5).map fun k => tr (bent 5) (2 * k % 5)) (by rw [l3, List.length_map, List.length_range]) (fun i y v h1 h2 => by
        obtain ⟨r, hr1, hr2⟩ := p3 i y h1
        have hi : i < 5 := by
          have := (List.getElem?_eq_some_iff.mp h1).1
          omega
        rw [List.getElem?_map, List.getElem?_range hi] at h2
        cases h2
        exact ⟨r, hr1, hr2⟩)
      have pn := h.bx.ne hacc
      exact ⟨acc, rs', _, n, a, rfl, h.step c0 (by omega) (by omega) (h.sb.trans s3.b) (h.bx.same s3) pn (SameB.none h.sb pn hacc) e3 hP ob6⟩
  · obtain ⟨l, rs, vs, n, a, rfl, h⟩ := hM7
    try walk_at "rf"
    refine ite2 (fun c0 => ?_) fun c0 => ⟨l, rs, vs, n, a, rfl, h.skip c0⟩
    have eb := h.bt (by omega)
    subst eb
    obtain ⟨n4, n7⟩ := h.w1 (by omega)
    have an := h.an
    have lr : rs.length = n := by rw [h.pl.len, bent_len]
    have lm : (rs.map V.ref).length = n := by rw [List.length_map, lr]
    have kl : SqL K J7 l (rs.map V.ref) := SqL.of h.hl
    refine ⟨_, .inl kl, ?_⟩
    rw [lm]
    refine ⟨by omega, by omega, fun acc hacc => ?_⟩
    rw [Int.toNat_natCast]
    refine compRq (n := n) (fun i y H => ∃ r : Addr, y = .ref r ∧ H r = some (.tup [.int (i : Int), .int (3 * (i : Int)), .int 1])) (fun i y H H' hp st => by obtain ⟨r, h1, h2⟩ := hp; exact ⟨r, h1, st _ _ h2⟩) (by omega) hacc (fun i H3 R hi s3 hR => ?_) fun ys H3 s3 e3 l3 p3 => ?_
    · try walk_at "rf"
      rw [Int.zero_add]
      exact ⟨Bd.fit (n := 3) (by unfold Bd; decide), Bd.fit (n := 5) (by unfold Bd; omega), by decide, fun p hp => hR _ _ (Same.new hp _) ⟨p, rfl, upd_same⟩⟩
    · obtain ⟨rs', rfl, hP⟩ := plc_of ys ((List.range n).map fun k : Nat => (⟨(k : Int), 3 * (k : Int), 1⟩ : Tri)) (by rw [l3, List.length_map, List.length_range]) (fun i y v h1 h2 => by
        obtain ⟨r, hr1, hr2⟩ := p3 i y h1
        have hi : i < n := by
          have := (List.getElem?_eq_some_iff.mp h1).1
          omega
        rw [List.getElem?_map, List.getElem?_range hi] at h2
        cases h2
        exact ⟨r, hr1, hr2⟩)
      have pn := h.bx.ne hacc
      exact ⟨acc, rs', _, n, a, rfl, h.step c0 (by omega) (by omega) (h.sb.trans s3.b) (h.bx.same s3) pn (SameB.none h.sb pn hacc) e3 hP (ob7 n (by omega) n4)⟩
  · obtain ⟨l, rs, vs, n, a, rfl, h⟩ := hM8
    try walk_at "rf"
    refine ite2 (fun c0 => ?_) fun c0 => ⟨l, rs, vs, n, a, rfl, h.skip c0⟩
    have eb := h.bt (by omega)
    subst eb
    obtain ⟨n4, n7⟩ := h.w1 (by omega)
    have an := h.an
    have lr : rs.length = n := by rw [h.pl.len, bent_len]
    have lm : (rs.map V.ref).length = n := by rw [List.length_map, lr]
    have kl : SqL K J8 l (rs.map V.ref) := SqL.of h.hl
    obtain ⟨g1, g2⟩ := h.pl.at (i := a) (by rw [bent_len]; exact an)
    refine ⟨⟨_, kl⟩, fun acc hacc => compLq (K := K) (a := l) (zs := rs.map V.ref) (fun i y H => y = .ref (ad rs a) ∧ H (ad rs a) = some (.tup [.int (tr (bent n) a).x, .int (tr (bent n) a).y, .int (tr (bent n) a).z])) (fun i y H H' hp st => ⟨hp.1, st _ _ hp.2⟩) (by rw [lm]; omega) hacc kl (fun i z H3 R hz s3 hR => ?_) fun ys H3 s3 e3 l3 p3 => ?_⟩
    · try walk_at "rf"
      exact ixL (s3.seq kl) (atI_nat g1) (hR _ _ (Same.refl _) ⟨rfl, s3 _ _ g2⟩)
    · obtain ⟨rs', rfl, hP⟩ := plc_of ys ((bent n).map fun _ => tr (bent n) a) (by rw [l3, lm, List.length_map, bent_len]) (fun i y v h1 h2 => by
        obtain ⟨hr1, hr2⟩ := p3 i y h1
        rw [List.getElem?_map] at h2
        cases e : (bent n)[i]? with
        | none => rw [e] at h2; cases h2
        | some v' =>
          rw [e] at h2
          cases h2
          exact ⟨_, hr1, hr2⟩)
      have pn := h.bx.ne hacc
      exact ⟨acc, rs', _, n, a, rfl, h.step c0 (by omega) (by omega) (h.sb.trans s3.b) (h.bx.same s3) pn (SameB.none h.sb pn hacc) e3 hP (ob8 n (by omega) n4 a an)⟩
  · obtain ⟨l, rs, vs, n, a, rfl, h⟩ := hM9
    try walk_at "rf"
    refine ⟨by decide, fun p1 hp1 => ⟨by decide, fun p2 hp2 => ⟨by decide, fun p3 hp3 => ⟨by decide, fun p4 hp4 => ?_⟩⟩⟩⟩
    have s1 := Same.new hp1 (.tup [V.int 1, V.int 1])
    have e1 : upd J9 p1 (.tup [V.int 1, V.int 1]) p1 = some (.tup [V.int 1, V.int 1]) := upd_same
    generalize upd J9 p1 (.tup [V.int 1, V.int 1]) = H1 at s1 e1 hp2 hp3 hp4 ⊢
    have s2 := Same.new hp2 (.tup [V.int 2, V.int 3])
    have e2 : upd H1 p2 (.tup [V.int 2, V.int 3]) p2 = some (.tup [V.int 2, V.int 3]) := upd_same
    generalize upd H1 p2 (.tup [V.int 2, V.int 3]) = H2 at s2 e2 hp3 hp4 ⊢
    have s3 := Same.new hp3 (.tup [V.int 4, V.int 3])
    have e3 : upd H2 p3 (.tup [V.int 4, V.int 3]) p3 = some (.tup [V.int 4, V.int 3]) := upd_same
    generalize upd H2 p3 (.tup [V.int 4, V.int 3]) = H3 at s3 e3 hp4 ⊢
    have s4 := Same.new hp4 (.lst [V.ref p1, V.ref p2, V.ref p3])
    have e4 : upd H3 p4 (.lst [V.ref p1, V.ref p2, V.ref p3]) p4 = some (.lst [V.ref p1, V.ref p2, V.ref p3]) := upd_same
    generalize upd H3 p4 (.lst [V.ref p1, V.ref p2, V.ref p3]) = H4 at s4 e4 ⊢
    have S4 : Same J9 H4 := ((s1.trans s2).trans s3).trans s4
    have h4 := h.keepB S4.b (h.bx.same S4)
    obtain ⟨m, hm⟩ := id h4.bx
    have m0 := Int.emod_nonneg m (show (3 : Int) ≠ 0 by decide)
    have m1 := Int.emod_lt_of_pos m (show (0 : Int) < 3 by decide)
    have p4n : p4 ≠ L := ((h.bx.same ((s1.trans s2).trans s3))).ne hp4
    have T5 : SameT H4 (upd H4 L (.lst [.int (m / 3)])) := SameB.t SameB.set h4.bx
    have h5 := h4.keepB (J' := upd H4 L (.lst [.int (m / 3)])) SameB.set ⟨_, upd_same⟩
    have k5 : SqL K (upd H4 L (.lst [.int (m / 3)])) p4 [V.ref p1, V.ref p2, V.ref p3] := SqL.of (by rw [upd_ne p4n]; exact e4)
    refine ⟨L, 3, m, rfl, hm, by decide, Bd.fit (n := 3) (by unfold Bd; decide), ?_⟩
    have h10 : Pm H L way 10 (upd H4 L (.lst [.int (m / 3)])) l rs vs n a := ⟨h5.sb, h5.bx, h5.ne, h5.hn, h5.hl, h5.pl, h5.an, h5.w0, h5.w1, fun x y z => h5.ob x y (by omega), fun z => h5.bt (fun y => z (by omega))⟩
    have e : m % 3 = 0 ∨ m % 3 = 1 ∨ m % 3 = 2 := by omega
    rcases e with e | e | e
    · rw [e]
      exact ixL k5 (i := 0) rfl ⟨p1, rfl, _, SqT.of (T5 _ _ (s4 _ _ (s3 _ _ (s2 _ _ e1)))), rfl, _, _, rfl, _, _, rfl, rfl, l, rs, vs, n, a, 1, 1, rfl, h10, by decide, by decide, by decide, by decide⟩
    · rw [e]
      exact ixL k5 (i := 1) rfl ⟨p2, rfl, _, SqT.of (T5 _ _ (s4 _ _ (s3 _ _ e2))), rfl, _, _, rfl, _, _, rfl, rfl, l, rs, vs, n, a, 2, 3, rfl, h10, by decide, by decide, by decide, by decide⟩
    · rw [e]
      exact ixL k5 (i := 2) rfl ⟨p3, rfl, _, SqT.of (T5 _ _ (s4 _ _ e3)), rfl, _, _, rfl, _, _, rfl, rfl, l, rs, vs, n, a, 4, 3, rfl, h10, by decide, by decide, by decide, by decide⟩
  · obtain ⟨l, rs, vs, n, a, s, t, rfl, h, s1, s4, t1, t3⟩ := hMa
    try walk_at "rf"
    have okv : okB vs = true ∧ vs.length ≤ 13 ∧ (way ≠ 9 → OB vs = true) ∧ (way = 9 → vs = bent n ∧ 4 ≤ n ∧ n ≤ 7) := by
      by_cases c : 1 ≤ way ∧ way ≤ 8
      · have ob := h.ob c.1 c.2 (by omega)
        have oo := OB.to ob
        exact ⟨oo.1, oo.2.2, fun _ => ob, fun z => absurd z (by omega)⟩
      · have eb := h.bt (fun z => c ⟨z.1, z.2.1⟩)
        subst eb
        have n12 : n ≤ 12 ∧ (way = 0 → 9 ≤ n) ∧ (way ≠ 0 → 4 ≤ n ∧ n ≤ 7) := by
          by_cases c : way = 0
          · have := h.w0 c; omega
          · have := h.w1 (by omega); omega
        exact ⟨okn n (by omega), by rw [bent_len]; omega, fun c9 => ob0 n (by omega) (n12.2.1 (by omega)), fun c9 => ⟨rfl, (n12.2.2 (by omega)).1, (n12.2.2 (by omega)).2⟩⟩
    obtain ⟨ov, lv, o1, o2⟩ := okv
    have lr : rs.length = vs.length := h.pl.len
    have kl : SqL K Ja l (rs.map V.ref) := SqL.of h.hl
    have hZa := hZ.keep (SameB.t h.sb hL)
    refine ⟨⟨_, kl⟩, fun acc hacc => ?_⟩
    refine compLM (zs := rs.map V.ref) (fun i y H' => ∃ r : Addr, y = .ref r ∧ Is4 H' r (spt Z (scl s t (tr vs i)))) (fun i y J J' ⟨r, h1, h2⟩ st => ⟨r, h1, st _ _ h2.1, h2.2⟩) (by rw [List.length_map]; omega) hacc kl ?_ ?_ ?_
    · intro i z v0 H5 R hi l0 s5 hR
      have hi8 : i < vs.length := by have := (List.getElem?_eq_some_iff.mp hi).1; rw [List.length_map] at this; omega
      obtain ⟨g1, g2⟩ := (h.pl.keep s5.t).at hi8
      rw [g1] at hi
      cases hi
      have g5 : SqT K H5 (ad rs i) [.int (tr vs i).x, .int (tr vs i).y, .int (tr vs i).z] := SqT.of g2
      have bd := okB_at ov hi8
      have pl := scl_pl s1 s4 t1 t3 bd
      have zs : Fit ((tr vs i).z * s) := by
        have es : s = 1 ∨ s = 2 ∨ s = 3 ∨ s = 4 := by omega
        rcases es with rfl | rfl | rfl | rfl <;> exact .o (by omega) (by omega)
      match v0, l0 with
      | [v1, v2, v3], _ =>
        try walk_at "rf"
        refine ⟨_, g5, rfl, _, _, rfl, _, _, rfl, _, _, rfl, rfl, ⟨[_, _, _], rfl, rfl⟩, ?_⟩
        try walk_at "rf"
        obtain ⟨q1, q2, q3, q4, q5, q6⟩ := bd
        exact ⟨.o (by omega) (by omega), .o (by omega) (by omega), .o (by omega) (by omega), .o (by omega) (by omega), .o (by omega) (by omega), .o (by omega) (by omega), zs, .o (by omega) (by omega), by decide, fun p hp => ⟨zt, p, Z, scl s t (tr vs i), rfl, (hZa.keep s5.t).keep (Same.new hp _).t, upd_same, pl, fun g H6 s6 h6 => hR _ _ ((Same.new hp _).trans s6) ⟨g, rfl, h6⟩⟩⟩
    · intro ys H5 s5 e5 l5 p5
      obtain ⟨rs', rfl, hp'⟩ := sps_of (H := H5) ys (shp Z s t vs) (by rw [l5, List.length_map, lr, shp_len]) fun i y p h1 h2 => by
        obtain ⟨r, rfl, hr⟩ := p5 i y h1
        have hi : i < vs.length := by
          have := (List.getElem?_eq_some_iff.mp h2).1
          rw [shp_len] at this
          exact this
        have e := shp_pt (Z := Z) (s := s) (t := t) hi
        unfold pt at e
        rw [List.getD_eq_getElem?_getD, h2] at e
        have e : p = _ := e
        rw [e]
        exact ⟨r, rfl, hr⟩
      have pn := h.bx.ne hacc
      exact ⟨acc, rs', vs, n, a, s, t, _, _, _, rfl, h.sb.trans s5.b, h.bx.same s5, SameB.none h.sb pn hacc, pn, ⟨e5, hp'⟩, h.an, s1, s4, t1, t3, o1, o2⟩
    · intro z σ J A B hAB h
      obtain ⟨a, xs, e1, e2, e3, v1, r1, e4, v2, r2, e5, v3, r3, e6, e7, h8⟩ := h
      exact ⟨a, xs, e1, e2, e3, v1, r1, e4, v2, r2, e5, v3, r3, e6, e7, hAB _ _ h8⟩
  · obtain ⟨g, rs, vs, n, a, s, t, o3, o5, o6, rfl, sb, bx, hg, gn, hc, an, s1, s4, t1, t3, h1, h2⟩ := hMb
    try walk_at "rf"
    refine ite2 (fun c0 => ?_) fun c0 => ⟨g, rs, shp Z s t vs, _, _, _, _, _, _, rfl, sb, bx, hc, bad_shp w1' s1 s4 t1 t3 (OB.to (h1 c0)).1 (OB.to (h1 c0)).2.1⟩
    obtain ⟨eb, n4, n7⟩ := h2 c0
    subst eb
    have lps : (shp Z s t (bent n)).length = n := by rw [shp_len, bent_len]
    have ap : a < (bent n).length := by rw [bent_len]; exact an
    obtain ⟨g1, g2⟩ := hc.2.get (i := a) (by omega)
    rw [shp_pt ap] at g2
    have lr : rs.length = n := by rw [hc.2.len, lps]
    have pl := scl_pl s1 s4 t1 t3 (okB_at (okn n (by omega)) ap)
    refine ixL (SqL.of hc.1) (atI_nat g1) ⟨ad rs a, zt, Z, scl s t (tr (bent n) a), rfl, g2, hZ.keep (SameB.t sb hL), pl, fun x H1 s1' h1' => ?_⟩
    unfold gSub
    try walk_at "rf"
    refine ⟨g, _, _, a, rfl, rfl, s1' _ _ hc.1, by rw [List.length_map, lr]; exact ixN_nat an, ?_⟩
    have u : SameT H1 (upd H1 g (.lst ((rs.map V.ref).set a (V.ref x)))) := SameT.upd (s1' _ _ hc.1)
    exact ⟨g, rs.set a x, (shp Z s t (bent n)).set a (lftP Z (spt Z (scl s t (tr (bent n) a)))), _, _, _, _, _, _, rfl, (sb.trans s1'.b).acc hg, (bx.same s1').upd gn, ⟨by rw [List.map_set]; exact upd_same, ((hc.2.keep s1'.t).set a _ _ h1').keep u⟩, bad_off w1' nz' s1 s4 t1 t3 (by omega) n4 an⟩
  · obtain ⟨g, rs, ps, o1, o2, o3, o4, o5, o6, rfl, sb, bx, hc, hb⟩ := hMc
    try walk_at "rf"
    exact q g rs ps _ sb bx hc hb
theorem scl_one (v : Tri) : scl 1 1 v = v := by
  unfold scl
  simp
theorem ok_law {e : Addr} {ed : FuncData} {cs : Nat → Addr} {SE C : Addr} (T : Tc K mg t1 t2 cs SE C) (F : FunD K "law" "law" s_law e ed .none) (d__law_left : DefOk P w K mg base CX0 1 "_law_left" ["cell"] [] spLeft) (d__law_sheet : DefOk P w K mg base CX0 2 "_law_sheet" ["left"] [] spSheet) (d__law_spot : DefOk P w K mg base CX0 3 "_law_spot" ["sheet", "place"] [] spSpot) (d__law_bent : DefOk P w K mg base CX0 1 "_law_bent" ["many"] [] spBent) (d__law_next : DefOk P w K mg base CX0 1 "_law_next" ["left", "base"] [] spNext) (d_made_board : DefOk P w K mg base (XOk P w) 6 "made_board" ["corners"] [] (spBoardX C)) (d__law_refused : DefOk P w K mg base CX0 7 "_law_refused" ["corners"] [] spRefused) (d__law_spoilt : DefOk P w K mg base CX0 4 "_law_spoilt" ["left", "sheet", "way"] [] spSpoilt) : FnOk P w K mg base CX0 8 e ed ["script"] (spLaw K) := by
  refine F.ok sc_law (fun vs H Q E h => ?_) (fun cdv A outer s H vs Q E hr h => ?_)
  · obtain ⟨a, ns, rfl, _⟩ := h
    rfl
  obtain ⟨a, ns, rfl, hS, hl, q⟩ := h
  have S := sc_law
  refine ⟨_, (pss_cons (ps_for PassesOwn.never rfl (pi_list (pe_op op_catQ (pe_lst (pa_cons pe_int pa_nil se_con)) (pv 0))) (pg_name (i := 1) S.nd rfl (Or.inl rfl))
    (pss_cons (ps_set (i := 2) S.nd rfl (Or.inl rfl) (pe_callD d__law_left (hr.mono (by decide)) rfl pass0 (pa_cons (pv 1) pa_nil se_nam)))
    (pss_cons (ps_set (i := 3) S.nd rfl (Or.inr rfl) (pe_callD d__law_sheet (hr.mono (by decide)) rfl pass0 (pa_cons (pv 2) pa_nil se_nam)))
    (pss_cons (ps_if (pt_cmpR op_ne (pe_callB call_len_seq rfl T.m_len PySem.boot_len (pa_cons (pe_callD d_made_board (hr.mono (by decide)) rfl passF (pa_cons (pe_comp rfl (N' := ["place", "sheet"]) (ix := [3]) ⟨rfl, rfl, by decide +kernel, by decide +kernel, rfl, by decide +kernel, (show ∀ y : Str × NameKind, y ∈ _ → y.2 = NameKind.free → (defScope s_law).names.lookup y.1 = some .cell ∨ (defScope s_law).names.lookup y.1 = some .free from by decide +kernel), (.cons rfl (.inl rfl) rfl .nil)⟩ (pi_list (pe_callD d__law_bent (hr.mono (by decide)) rfl pass0 (pa_cons pe_int pa_nil se_con))) (fun _ _ _ _ => pg_name (i := 0) (show (["place", "sheet"] : List Str).Nodup from by decide +kernel) rfl (Or.inl rfl)) (fun _ _ _ _ => pts_nil) (fun _ _ _ _ => (pe_callD d__law_spot (hr.mono (by decide)) rfl pass0 (pa_cons (pv 1) (pa_cons (pv 0) pa_nil se_nam) se_nam)))) pa_nil se_cmp)) pa_nil se_cal)) pe_int (nomark _))
    (pss_one (ps_ret pe_bl))
    pss_nil)
    (pss_one (ps_for PassesOwn.never rfl (pi_list (pe_lst (pa_cons pe_int (pa_cons (pe_op op_add pe_int (pe_callD d__law_next (hr.mono (by decide)) rfl pass0 (pa_cons (pv 2) (pa_cons pe_int pa_nil se_con) se_nam))) (pa_cons (pe_op op_add pe_int (pe_callD d__law_next (hr.mono (by decide)) rfl pass0 (pa_cons (pv 2) (pa_cons pe_int pa_nil se_con) se_nam))) (pa_cons pe_int pa_nil se_con) se_bin) se_bin) se_con))) (pg_name (i := 4) S.nd rfl (Or.inl rfl))
    (pss_one (ps_if (pt_not (pt_val (pe_callD d__law_refused (hr.mono (by decide)) rfl pass0 (pa_cons (pe_callD d__law_spoilt (hr.mono (by decide)) rfl pass0 (pa_cons (pv 2) (pa_cons (pv 3) (pa_cons (pv 4) pa_nil se_nam) se_nam) se_nam)) pa_nil se_cal))))
    (pss_one (ps_ret pe_bl))
    pss_nil))))))))
    (pss_one (ps_ret pe_bl))), ?_⟩
  try walk_at "rf"
  refine ⟨by decide, fun p hp => ?_⟩
  have s0 := Same.new hp (.lst [V.int 0])
  have e0 : upd H p (.lst [V.int 0]) p = some (.lst [V.int 0]) := upd_same
  generalize upd H p (.lst [V.int 0]) = H0 at s0 e0 ⊢
  refine ⟨p, a, _, _, rfl, rfl, SqL.of e0, s0.seq hS, by rw [List.length_map]; exact Nat.le_of_lt (lt_line (show 1 + ns.length < 1000 by omega)), fun cl hcl => ?_⟩
  have s1 := Same.new hcl (.lst ([V.int 0] ++ ns.map V.int))
  have e1 : upd H0 cl (.lst ([V.int 0] ++ ns.map V.int)) cl = some (.lst ((0 :: ns).map V.int)) := upd_same
  generalize upd H0 cl (.lst ([V.int 0] ++ ns.map V.int)) = H1 at s1 e1 ⊢
  refine ⟨cl, rfl, ⟨_, SqL.of e1⟩, for_list (K := K) (a := cl) (xs := (0 :: ns).map V.int) (fun i σ J => Same H1 J ∧ ∃ o1 o2 o3 o4 : Option V, σ = [some (.ref a), o1, o2, o3, o4]) ⟨Same.refl _, none, none, none, none, rfl⟩ (fun i σ J hi hP => SqL.of (hP.1 _ _ e1)) ?_ ?_⟩
  · rintro i v σ J hv ⟨sJ, o1, o2, o3, o4, rfl⟩
    obtain ⟨cell, rfl, hc⟩ := int_of (ns := 0 :: ns) hv
    try walk_at "rf"
    refine ⟨cell, rfl, fun L J2 m nL s2 e2 => ?_⟩
    refine ⟨L, rfl, ⟨m, e2⟩, fun zt J3 Z s3 b3 hZ => ?_⟩
    refine ⟨8, rfl, by decide, fun lb rb J4 hlb s4 e4 hP4 => ?_⟩
    have lr : rb.length = 8 := by rw [hP4.len, bent_len]
    try walk_at "rf"
    have kb : SqL K J4 lb (rb.map V.ref) := SqL.of e4
    refine ⟨⟨_, kb⟩, fun acc hacc => ?_⟩
    have hZ4 := hZ.keep s4.t
    refine compLq (K := K) (a := lb) (zs := rb.map V.ref) (fun i y H' => ∃ r : Addr, y = .ref r ∧ Is4 H' r (spt Z (scl 1 1 (tr (bent 8) i)))) (fun i y J J' ⟨r, h1, h2⟩ st => ⟨r, h1, st _ _ h2.1, h2.2⟩) (by rw [List.length_map]; omega) hacc kb (fun i z H5 R hz s5 hR => ?_) fun ys J5 s5 e5 l5 p5 => ?_
    · have hi8 : i < (bent 8).length := by have := (List.getElem?_eq_some_iff.mp hz).1; rw [List.length_map] at this; rw [bent_len]; omega
      obtain ⟨g1, g2⟩ := (hP4.keep s5.t).at hi8
      rw [g1] at hz
      cases hz
      try walk_at "rf"
      have pl := scl_pl (s := 1) (t := 1) (by decide) (by decide) (by decide) (by decide) (okB_at bent_good.1 hi8)
      rw [scl_one] at pl hR
      exact ⟨zt, _, Z, tr (bent 8) i, rfl, hZ4.keep s5.t, g2, pl, fun g H6 s6 h6 => hR _ _ s6 ⟨g, rfl, h6⟩⟩
    obtain ⟨rs', rfl, hsp⟩ := sps_of (H := J5) ys (shp Z 1 1 (bent 8)) (by rw [l5, List.length_map, lr, shp_len, bent_len]) fun i y p h1 h2 => by
      obtain ⟨r, rfl, hr⟩ := p5 i y h1
      have hi : i < (bent 8).length := by
        have := (List.getElem?_eq_some_iff.mp h2).1
        rw [shp_len] at this
        exact this
      have e := shp_pt (Z := Z) (s := 1) (t := 1) hi
      unfold pt at e
      rw [List.getD_eq_getElem?_getD, h2] at e
      have e : p = _ := e
      rw [e]
      exact ⟨r, rfl, hr⟩
    obtain ⟨_, _, _, _, _, _, _, w1', _, nz'⟩ := id hZ
    have B := good_shp (Z := Z) (s := 1) (t := 1) w1' nz' (by decide) (by decide) (by decide) (by decide) bent_good.1 bent_good.2
    refine ⟨acc, rs', _, rfl, ⟨e5, hsp⟩, .inl ⟨B, fun tb J6 s6 e6 => ?_⟩⟩
    have l8 : (((frm (shp Z 1 1 (bent 8)) rs').map V.ref).length : Int) = 8 := by
      rw [List.length_map, (hsp.frm (ps := shp Z 1 1 (bent 8))).len, frm_len rfl B.n3, shp_len, bent_len]
      rfl
    refine ⟨tb, rfl, _, .inr (SqT.of e6), ?_⟩
    rw [l8]
    try walk_at "rf"
    have S46 : Same J3 J6 := (s4.trans s5).trans s6
    have b6 := b3.same S46
    obtain ⟨m6, hm6⟩ := id b6
    have f9 : Fit 9 := Bd.fit (n := 4) (by unfold Bd; decide)
    refine ⟨L, 9, m6, rfl, hm6, by decide, f9, _, rfl, L, 9, m6 / 9, rfl, upd_same, by decide, f9, _, rfl, by decide, fun wl hwl => ?_⟩
    have x0 := Int.emod_nonneg m6 (show (9 : Int) ≠ 0 by decide)
    have x1 := Int.emod_lt_of_pos m6 (show (0 : Int) < 9 by decide)
    have y0 := Int.emod_nonneg (m6 / 9) (show (9 : Int) ≠ 0 by decide)
    have y1 := Int.emod_lt_of_pos (m6 / 9) (show (0 : Int) < 9 by decide)
    have s7 : SameB L J6 (upd (upd J6 L (.lst [.int (m6 / 9)])) L (.lst [.int (m6 / 9 / 9)])) := SameB.set.trans SameB.set
    have b7 : Box (upd (upd J6 L (.lst [.int (m6 / 9)])) L (.lst [.int (m6 / 9 / 9)])) L := ⟨_, upd_same⟩
    generalize upd (upd J6 L (.lst [.int (m6 / 9)])) L (.lst [.int (m6 / 9 / 9)]) = J7 at s7 b7 hwl ⊢
    generalize m6 % 9 = x at x0 x1 ⊢
    generalize m6 / 9 % 9 = y at y0 y1 ⊢
    have s8 := Same.new hwl (.lst [V.int 0, V.int (1 + x), V.int (1 + y), V.int 9])
    have e8 : upd J7 wl (.lst [V.int 0, V.int (1 + x), V.int (1 + y), V.int 9]) wl = some (.lst ([0, 1 + x, 1 + y, 9].map V.int)) := upd_same
    have wn := b7.ne hwl
    have b8 := b7.same s8
    generalize upd J7 wl (.lst [V.int 0, V.int (1 + x), V.int (1 + y), V.int 9]) = J8 at s8 e8 b8 ⊢
    have SB : SameB L J2 J8 := s3.trans (S46.b.trans (s7.trans s8.b))
    have hZ8 := ((hZ.keep S46.t).keep (SameB.t s7 b6)).keep s8.t
    refine ⟨⟨_, SqL.of e8⟩, for_list (K := K) (a := wl) (xs := [0, 1 + x, 1 + y, 9].map V.int) (fun i σ J9 => SameB L J8 J9 ∧ Box J9 L ∧ ∃ o : Option V, σ = [some (V.ref a), some (V.int cell), some (V.ref L), some (V.ref zt), o]) ⟨fun _ _ _ z => z, b8, _, rfl⟩ (fun i σ J9 hi hP => SqL.of (hP.1 _ _ wn e8)) ?_ ?_⟩
    · rintro i v σ J9 hv ⟨sb9, b9, o, rfl⟩
      obtain ⟨way, rfl, hw⟩ := int_of (ns := [0, 1 + x, 1 + y, 9]) hv
      have hw' : way ∈ [0, 1 + x, 1 + y, 9] := List.mem_of_getElem? hw
      have wr : 0 ≤ way ∧ way ≤ 9 := by
        simp only [List.mem_cons, List.not_mem_nil, or_false] at hw'
        omega
      try walk_at "rf"
      refine ⟨L, zt, Z, way, rfl, b9, hZ8.keep (SameB.t sb9 b8), wr.1, wr.2, fun g rg ps Ja sa ba hca hba => ?_⟩
      refine ⟨g, rg, ps, rfl, hca, hba, fun Jb sb' => ?_⟩
      try walk_at "rf"
      first | exact ⟨sb9.trans (sa.trans sb'.b), ba.same sb', _, rfl⟩ | exact ⟨true, rfl, sb9.trans (sa.trans sb'.b), ba.same sb', _, rfl⟩ | (trace_state; exact ⟨sb9.trans (sa.trans sb'.b), ba.same sb'⟩)
    · rintro σ J9 ⟨sb9, b9, o, rfl⟩
      exact ⟨sJ.trans (SameB.fresh s2 nL (SB.trans sb9)), _, _, _, _, rfl⟩
  · rintro σ J ⟨sJ, o1, o2, o3, o4, rfl⟩
    try walk_at "rf"
    exact q J
end
def xcOk (K : PySem.W.Frag) (C : Addr) : Bool := (PySem.W.clsIn K C).isSome && PySem.W.findIn K (.ref C) "__getattribute__" == some (some (.builtin "BaseException.__getattribute__")) && PySem.W.findIn K (.ref C) "__getattr__" == some none
  && PySem.W.subIn K (.ref C) (.type "BaseException") == some true && PySem.W.findIn K (.ref C) "__class__" == some (some (.builtin "object.__class__")) && PySem.W.specialIn K (.builtin "object.__class__") "__get__" == some (some (.builtin "getset_descriptor.__get__"))
  && PySem.W.takesIn K (.builtin "object.__class__") == some true && PySem.W.mroIn K C (.type "object") == some true
theorem xcOk.to {K : PySem.W.Frag} {C : Addr} (h : xcOk K C = true) : XCls K C := by
  unfold xcOk at h
  simp only [Bool.and_eq_true, beq_iff_eq] at h
  obtain ⟨⟨⟨⟨⟨⟨⟨h1, h2⟩, h3⟩, h4⟩, h5⟩, h6⟩, h7⟩, h8⟩ := h
  exact ⟨h1, h2, h3, h4, h5, h6, h7, h8⟩
def clsOk (K : PySem.W.Frag) (S C : Addr) (cs : List Addr) : Bool := xcOk K C && PySem.W.exmOne K (.ref C) (.ref S) == some true && PySem.W.kitOne K (.ref C) (.ref C) == some true && PySem.W.kitOne K (.ref C) (.type "ValueError") == some true && PySem.W.kitAny K (.ref C) (cs.map Value.ref) == some false
theorem clsOk.to {K : PySem.W.Frag} {S C : Addr} {cs : List Addr} (h : clsOk K S C cs = true) : XCls K C ∧ PySem.W.exmOne K (.ref C) (.ref S) = some true ∧ PySem.W.kitOne K (.ref C) (.ref C) = some true ∧ PySem.W.kitOne K (.ref C) (.type "ValueError") = some true ∧ PySem.W.kitAny K (.ref C) (cs.map Value.ref) = some false := by
  unfold clsOk at h
  simp only [Bool.and_eq_true, beq_iff_eq] at h
  obtain ⟨⟨⟨⟨h1, h2⟩, h3⟩, h4⟩, h5⟩ := h
  exact ⟨xcOk.to h1, h2, h3, h4, h5⟩
theorem all_mk {l : PySem.W.OpenLaw} {w : World} {K : PySem.W.Frag} {h : Heap} {mg : Str → Option Value} {fa SE CR E0 E1 E2 E3 E4 E5 E6 E7 E8 : Addr} {t1 t2 : Tok} (X : K.In h) (G : h.Ns mainGlobals mg) (hfa : mg "law" = some (.ref fa))
    {f0 f1 f2 f3 f4 f5 f6 f7 f8 f9 f10 f11 f12 f13 f14 f15 f16 f17 f18 f19 f20 f21 f22 f23 f24 f25 f26 f27 f28 f29 f30 f31 f32 f33 : Addr} {od0 an0 od1 an1 od2 an2 od3 an3 od4 an4 od5 an5 od6 an6 od7 an7 od8 an8 od9 an9 od10 an10 od11 an11 od12 an12 od13 an13 od14 an14 od15 an15 od16 an16 od17 an17 od18 an18 od19 an19 od20 an20 od21 an21 od22 an22 od23 an23 od24 an24 od25 an25 od26 an26 od27 an27 od28 an28 od29 an29 od30 an30 od31 an31 od32 an32 od33 an33 : Option Addr} {sl0 sl1 sl2 sl3 sl4 sl5 sl6 sl7 sl8 sl9 sl10 sl11 sl12 sl13 sl14 sl15 sl16 sl17 sl18 sl19 sl20 sl21 sl22 sl23 sl24 sl25 sl26 sl27 sl28 sl29 sl30 sl31 sl32 sl33 : Array (Option Value)} {oc0 kV0 dc0 pm0 cd0 ct0 oc1 kV1 dc1 pm1 cd1 ct1 oc2 kV2 dc2 pm2 cd2 ct2 oc3 kV3 dc3 pm3 cd3 ct3 oc4 kV4 dc4 pm4 cd4 ct4 oc5 kV5 dc5 pm5 cd5 ct5 oc6 kV6 dc6 pm6 cd6 ct6 oc7 kV7 dc7 pm7 cd7 ct7 oc8 kV8 dc8 pm8 cd8 ct8 oc9 kV9 dc9 pm9 cd9 ct9 oc10 kV10 dc10 pm10 cd10 ct10 oc11 kV11 dc11 pm11 cd11 ct11 oc12 kV12 dc12 pm12 cd12 ct12 oc13 kV13 dc13 pm13 cd13 ct13 oc14 kV14 dc14 pm14 cd14 ct14 oc15 kV15 dc15 pm15 cd15 ct15 oc16 kV16 dc16 pm16 cd16 ct16 oc17 kV17 dc17 pm17 cd17 ct17 oc18 kV18 dc18 pm18 cd18 ct18 oc19 kV19 dc19 pm19 cd19 ct19 oc20 kV20 dc20 pm20 cd20 ct20 oc21 kV21 dc21 pm21 cd21 ct21 oc22 kV22 dc22 pm22 cd22 ct22 oc23 kV23 dc23 pm23 cd23 ct23 oc24 kV24 dc24 pm24 cd24 ct24 oc25 kV25 dc25 pm25 cd25 ct25 oc26 kV26 dc26 pm26 cd26 ct26 oc27 kV27 dc27 pm27 cd27 ct27 oc28 kV28 dc28 pm28 cd28 ct28 oc29 kV29 dc29 pm29 cd29 ct29 oc30 kV30 dc30 pm30 cd30 ct30 oc31 kV31 dc31 pm31 cd31 ct31 oc32 kV32 dc32 pm32 cd32 ct32 oc33 kV33 dc33 pm33 cd33 ct33 : Value}
    (kSE : PySem.W.nsIn K mainGlobals "SightError" = some (some (.ref SE))) (kCR : PySem.W.nsIn K mainGlobals "NoBoard" = some (some (.ref CR))) (kVE : PySem.W.nsIn K mainGlobals "ValueError" = some none)
    (kE0 : PySem.W.nsIn K mainGlobals "NoDeed" = some (some (.ref E0)))
    (kE1 : PySem.W.nsIn K mainGlobals "NoFrame" = some (some (.ref E1)))
    (kE2 : PySem.W.nsIn K mainGlobals "NoName" = some (some (.ref E2)))
    (kE3 : PySem.W.nsIn K mainGlobals "NoNumber" = some (some (.ref E3)))
    (kE4 : PySem.W.nsIn K mainGlobals "NoPlane" = some (some (.ref E4)))
    (kE5 : PySem.W.nsIn K mainGlobals "NoSpot" = some (some (.ref E5)))
    (kE6 : PySem.W.nsIn K mainGlobals "NoText" = some (some (.ref E6)))
    (kE7 : PySem.W.nsIn K mainGlobals "NotFree" = some (some (.ref E7)))
    (kE8 : PySem.W.nsIn K mainGlobals "TooMany" = some (some (.ref E8)))
    (qCR : PySem.W.excIn K CR [.type "ValueError", .type "Exception", .type "BaseException", .type "object"] "ValueError.__new__" = true) (rCR : clsOk K SE CR [E0, E1, E2, E3, E4, E5, E6, E7, E8] = true)
    (aS0 : PySem.W.nsIn K mainGlobals "SHORT_BITS" = some (some (.int 2000 t1)))
    (aS1 : PySem.W.nsIn K mainGlobals "MOST_CORNERS" = some (some (.int 8 t2)))
    (a0 : PySem.W.nsIn K mainGlobals "sign_of" = some (some (.ref f0))) (l0 : K.lookup f0 = some ⟨oc0, od0, .func (PySem.W.fnOf "sign_of" "sign_of" (defArgs s_sign_of) (defBody s_sign_of) (defScope s_sign_of) .none kV0 dc0 pm0 an0 cd0 ct0), sl0⟩) (c0 : PySem.W.codeIn K cd0 "sign_of" = true) (k0 : PySem.W.keepIn K (.ref f0) = true)
    (a1 : PySem.W.nsIn K mainGlobals "greatest_divisor" = some (some (.ref f1))) (l1 : K.lookup f1 = some ⟨oc1, od1, .func (PySem.W.fnOf "greatest_divisor" "greatest_divisor" (defArgs s_greatest_divisor) (defBody s_greatest_divisor) (defScope s_greatest_divisor) .none kV1 dc1 pm1 an1 cd1 ct1), sl1⟩) (c1 : PySem.W.codeIn K cd1 "greatest_divisor" = true) (k1 : PySem.W.keepIn K (.ref f1) = true)
    (a2 : PySem.W.nsIn K mainGlobals "in_lowest_terms" = some (some (.ref f2))) (l2 : K.lookup f2 = some ⟨oc2, od2, .func (PySem.W.fnOf "in_lowest_terms" "in_lowest_terms" (defArgs s_in_lowest_terms) (defBody s_in_lowest_terms) (defScope s_in_lowest_terms) .none kV2 dc2 pm2 an2 cd2 ct2), sl2⟩) (c2 : PySem.W.codeIn K cd2 "in_lowest_terms" = true) (k2 : PySem.W.keepIn K (.ref f2) = true)
    (a3 : PySem.W.nsIn K mainGlobals "crossed" = some (some (.ref f3))) (l3 : K.lookup f3 = some ⟨oc3, od3, .func (PySem.W.fnOf "crossed" "crossed" (defArgs s_crossed) (defBody s_crossed) (defScope s_crossed) .none kV3 dc3 pm3 an3 cd3 ct3), sl3⟩) (c3 : PySem.W.codeIn K cd3 "crossed" = true) (k3 : PySem.W.keepIn K (.ref f3) = true)
    (a4 : PySem.W.nsIn K mainGlobals "determinant" = some (some (.ref f4))) (l4 : K.lookup f4 = some ⟨oc4, od4, .func (PySem.W.fnOf "determinant" "determinant" (defArgs s_determinant) (defBody s_determinant) (defScope s_determinant) .none kV4 dc4 pm4 an4 cd4 ct4), sl4⟩) (c4 : PySem.W.codeIn K cd4 "determinant" = true) (k4 : PySem.W.keepIn K (.ref f4) = true)
    (a5 : PySem.W.nsIn K mainGlobals "stands_first" = some (some (.ref f5))) (l5 : K.lookup f5 = some ⟨oc5, od5, .func (PySem.W.fnOf "stands_first" "stands_first" (defArgs s_stands_first) (defBody s_stands_first) (defScope s_stands_first) .none kV5 dc5 pm5 an5 cd5 ct5), sl5⟩) (c5 : PySem.W.codeIn K cd5 "stands_first" = true) (k5 : PySem.W.keepIn K (.ref f5) = true)
    (a6 : PySem.W.nsIn K mainGlobals "without" = some (some (.ref f6))) (l6 : K.lookup f6 = some ⟨oc6, od6, .func (PySem.W.fnOf "without" "without" (defArgs s_without) (defBody s_without) (defScope s_without) .none kV6 dc6 pm6 an6 cd6 ct6), sl6⟩) (c6 : PySem.W.codeIn K cd6 "without" = true) (k6 : PySem.W.keepIn K (.ref f6) = true)
    (a7 : PySem.W.nsIn K mainGlobals "minor_of" = some (some (.ref f7))) (l7 : K.lookup f7 = some ⟨oc7, od7, .func (PySem.W.fnOf "minor_of" "minor_of" (defArgs s_minor_of) (defBody s_minor_of) (defScope s_minor_of) .none kV7 dc7 pm7 an7 cd7 ct7), sl7⟩) (c7 : PySem.W.codeIn K cd7 "minor_of" = true) (k7 : PySem.W.keepIn K (.ref f7) = true)
    (a8 : PySem.W.nsIn K mainGlobals "in_line" = some (some (.ref f8))) (l8 : K.lookup f8 = some ⟨oc8, od8, .func (PySem.W.fnOf "in_line" "in_line" (defArgs s_in_line) (defBody s_in_line) (defScope s_in_line) .none kV8 dc8 pm8 an8 cd8 ct8), sl8⟩) (c8 : PySem.W.codeIn K cd8 "in_line" = true) (k8 : PySem.W.keepIn K (.ref f8) = true)
    (a9 : PySem.W.nsIn K mainGlobals "made_plane" = some (some (.ref f9))) (l9 : K.lookup f9 = some ⟨oc9, od9, .func (PySem.W.fnOf "made_plane" "made_plane" (defArgs s_made_plane) (defBody s_made_plane) (defScope s_made_plane) .none kV9 dc9 pm9 an9 cd9 ct9), sl9⟩) (c9 : PySem.W.codeIn K cd9 "made_plane" = true) (k9 : PySem.W.keepIn K (.ref f9) = true)
    (a10 : PySem.W.nsIn K mainGlobals "turned_about" = some (some (.ref f10))) (l10 : K.lookup f10 = some ⟨oc10, od10, .func (PySem.W.fnOf "turned_about" "turned_about" (defArgs s_turned_about) (defBody s_turned_about) (defScope s_turned_about) .none kV10 dc10 pm10 an10 cd10 ct10), sl10⟩) (c10 : PySem.W.codeIn K cd10 "turned_about" = true) (k10 : PySem.W.keepIn K (.ref f10) = true)
    (a11 : PySem.W.nsIn K mainGlobals "is_plain" = some (some (.ref f11))) (l11 : K.lookup f11 = some ⟨oc11, od11, .func (PySem.W.fnOf "is_plain" "is_plain" (defArgs s_is_plain) (defBody s_is_plain) (defScope s_is_plain) .none kV11 dc11 pm11 an11 cd11 ct11), sl11⟩) (c11 : PySem.W.codeIn K cd11 "is_plain" = true) (k11 : PySem.W.keepIn K (.ref f11) = true)
    (a12 : PySem.W.nsIn K mainGlobals "rough_plane" = some (some (.ref f12))) (l12 : K.lookup f12 = some ⟨oc12, od12, .func (PySem.W.fnOf "rough_plane" "rough_plane" (defArgs s_rough_plane) (defBody s_rough_plane) (defScope s_rough_plane) .none kV12 dc12 pm12 an12 cd12 ct12), sl12⟩) (c12 : PySem.W.codeIn K cd12 "rough_plane" = true) (k12 : PySem.W.keepIn K (.ref f12) = true)
    (a13 : PySem.W.nsIn K mainGlobals "plane_through" = some (some (.ref f13))) (l13 : K.lookup f13 = some ⟨oc13, od13, .func (PySem.W.fnOf "plane_through" "plane_through" (defArgs s_plane_through) (defBody s_plane_through) (defScope s_plane_through) .none kV13 dc13 pm13 an13 cd13 ct13), sl13⟩) (c13 : PySem.W.codeIn K cd13 "plane_through" = true) (k13 : PySem.W.keepIn K (.ref f13) = true)
    (a14 : PySem.W.nsIn K mainGlobals "height_over" = some (some (.ref f14))) (l14 : K.lookup f14 = some ⟨oc14, od14, .func (PySem.W.fnOf "height_over" "height_over" (defArgs s_height_over) (defBody s_height_over) (defScope s_height_over) .none kV14 dc14 pm14 an14 cd14 ct14), sl14⟩) (c14 : PySem.W.codeIn K cd14 "height_over" = true) (k14 : PySem.W.keepIn K (.ref f14) = true)
    (a15 : PySem.W.nsIn K mainGlobals "side_of" = some (some (.ref f15))) (l15 : K.lookup f15 = some ⟨oc15, od15, .func (PySem.W.fnOf "side_of" "side_of" (defArgs s_side_of) (defBody s_side_of) (defScope s_side_of) .none kV15 dc15 pm15 an15 cd15 ct15), sl15⟩) (c15 : PySem.W.codeIn K cd15 "side_of" = true) (k15 : PySem.W.keepIn K (.ref f15) = true)
    (a16 : PySem.W.nsIn K mainGlobals "formed" = some (some (.ref f16))) (l16 : K.lookup f16 = some ⟨oc16, od16, .func (PySem.W.fnOf "formed" "formed" (defArgs s_formed) (defBody s_formed) (defScope s_formed) .none kV16 dc16 pm16 an16 cd16 ct16), sl16⟩) (c16 : PySem.W.codeIn K cd16 "formed" = true) (k16 : PySem.W.keepIn K (.ref f16) = true)
    (a17 : PySem.W.nsIn K mainGlobals "flat_axis" = some (some (.ref f17))) (l17 : K.lookup f17 = some ⟨oc17, od17, .func (PySem.W.fnOf "flat_axis" "flat_axis" (defArgs s_flat_axis) (defBody s_flat_axis) (defScope s_flat_axis) .none kV17 dc17 pm17 an17 cd17 ct17), sl17⟩) (c17 : PySem.W.codeIn K cd17 "flat_axis" = true) (k17 : PySem.W.keepIn K (.ref f17) = true)
    (a18 : PySem.W.nsIn K mainGlobals "side_of_edge" = some (some (.ref f18))) (l18 : K.lookup f18 = some ⟨oc18, od18, .func (PySem.W.fnOf "side_of_edge" "side_of_edge" (defArgs s_side_of_edge) (defBody s_side_of_edge) (defScope s_side_of_edge) .none kV18 dc18 pm18 an18 cd18 ct18), sl18⟩) (c18 : PySem.W.codeIn K cd18 "side_of_edge" = true) (k18 : PySem.W.keepIn K (.ref f18) = true)
    (a19 : PySem.W.nsIn K mainGlobals "is_convex" = some (some (.ref f19))) (l19 : K.lookup f19 = some ⟨oc19, od19, .func (PySem.W.fnOf "is_convex" "is_convex" (defArgs s_is_convex) (defBody s_is_convex) (defScope s_is_convex) .none kV19 dc19 pm19 an19 cd19 ct19), sl19⟩) (c19 : PySem.W.codeIn K cd19 "is_convex" = true) (k19 : PySem.W.keepIn K (.ref f19) = true)
    (a20 : PySem.W.nsIn K mainGlobals "made_board" = some (some (.ref f20))) (l20 : K.lookup f20 = some ⟨oc20, od20, .func (PySem.W.fnOf "made_board" "made_board" (defArgs s_made_board) (defBody s_made_board) (defScope s_made_board) .none kV20 dc20 pm20 an20 cd20 ct20), sl20⟩) (c20 : PySem.W.codeIn K cd20 "made_board" = true) (k20 : PySem.W.keepIn K (.ref f20) = true)
    (a21 : PySem.W.nsIn K mainGlobals "_law_next" = some (some (.ref f21))) (l21 : K.lookup f21 = some ⟨oc21, od21, .func (PySem.W.fnOf "_law_next" "_law_next" (defArgs s__law_next) (defBody s__law_next) (defScope s__law_next) .none kV21 dc21 pm21 an21 cd21 ct21), sl21⟩) (c21 : PySem.W.codeIn K cd21 "_law_next" = true) (k21 : PySem.W.keepIn K (.ref f21) = true)
    (a22 : PySem.W.nsIn K mainGlobals "_law_left" = some (some (.ref f22))) (l22 : K.lookup f22 = some ⟨oc22, od22, .func (PySem.W.fnOf "_law_left" "_law_left" (defArgs s__law_left) (defBody s__law_left) (defScope s__law_left) .none kV22 dc22 pm22 an22 cd22 ct22), sl22⟩) (c22 : PySem.W.codeIn K cd22 "_law_left" = true) (k22 : PySem.W.keepIn K (.ref f22) = true)
    (a23 : PySem.W.nsIn K mainGlobals "_law_divisor" = some (some (.ref f23))) (l23 : K.lookup f23 = some ⟨oc23, od23, .func (PySem.W.fnOf "_law_divisor" "_law_divisor" (defArgs s__law_divisor) (defBody s__law_divisor) (defScope s__law_divisor) .none kV23 dc23 pm23 an23 cd23 ct23), sl23⟩) (c23 : PySem.W.codeIn K cd23 "_law_divisor" = true) (k23 : PySem.W.keepIn K (.ref f23) = true)
    (a24 : PySem.W.nsIn K mainGlobals "_law_lowest" = some (some (.ref f24))) (l24 : K.lookup f24 = some ⟨oc24, od24, .func (PySem.W.fnOf "_law_lowest" "_law_lowest" (defArgs s__law_lowest) (defBody s__law_lowest) (defScope s__law_lowest) .none kV24 dc24 pm24 an24 cd24 ct24), sl24⟩) (c24 : PySem.W.codeIn K cd24 "_law_lowest" = true) (k24 : PySem.W.keepIn K (.ref f24) = true)
    (a25 : PySem.W.nsIn K mainGlobals "_law_cross" = some (some (.ref f25))) (l25 : K.lookup f25 = some ⟨oc25, od25, .func (PySem.W.fnOf "_law_cross" "_law_cross" (defArgs s__law_cross) (defBody s__law_cross) (defScope s__law_cross) .none kV25 dc25 pm25 an25 cd25 ct25), sl25⟩) (c25 : PySem.W.codeIn K cd25 "_law_cross" = true) (k25 : PySem.W.keepIn K (.ref f25) = true)
    (a26 : PySem.W.nsIn K mainGlobals "_law_sheet" = some (some (.ref f26))) (l26 : K.lookup f26 = some ⟨oc26, od26, .func (PySem.W.fnOf "_law_sheet" "_law_sheet" (defArgs s__law_sheet) (defBody s__law_sheet) (defScope s__law_sheet) .none kV26 dc26 pm26 an26 cd26 ct26), sl26⟩) (c26 : PySem.W.codeIn K cd26 "_law_sheet" = true) (k26 : PySem.W.keepIn K (.ref f26) = true)
    (a27 : PySem.W.nsIn K mainGlobals "_law_spot" = some (some (.ref f27))) (l27 : K.lookup f27 = some ⟨oc27, od27, .func (PySem.W.fnOf "_law_spot" "_law_spot" (defArgs s__law_spot) (defBody s__law_spot) (defScope s__law_spot) .none kV27 dc27 pm27 an27 cd27 ct27), sl27⟩) (c27 : PySem.W.codeIn K cd27 "_law_spot" = true) (k27 : PySem.W.keepIn K (.ref f27) = true)
    (a28 : PySem.W.nsIn K mainGlobals "_law_bent" = some (some (.ref f28))) (l28 : K.lookup f28 = some ⟨oc28, od28, .func (PySem.W.fnOf "_law_bent" "_law_bent" (defArgs s__law_bent) (defBody s__law_bent) (defScope s__law_bent) .none kV28 dc28 pm28 an28 cd28 ct28), sl28⟩) (c28 : PySem.W.codeIn K cd28 "_law_bent" = true) (k28 : PySem.W.keepIn K (.ref f28) = true)
    (a29 : PySem.W.nsIn K mainGlobals "_law_within" = some (some (.ref f29))) (l29 : K.lookup f29 = some ⟨oc29, od29, .func (PySem.W.fnOf "_law_within" "_law_within" (defArgs s__law_within) (defBody s__law_within) (defScope s__law_within) .none kV29 dc29 pm29 an29 cd29 ct29), sl29⟩) (c29 : PySem.W.codeIn K cd29 "_law_within" = true) (k29 : PySem.W.keepIn K (.ref f29) = true)
    (a30 : PySem.W.nsIn K mainGlobals "_law_lifted" = some (some (.ref f30))) (l30 : K.lookup f30 = some ⟨oc30, od30, .func (PySem.W.fnOf "_law_lifted" "_law_lifted" (defArgs s__law_lifted) (defBody s__law_lifted) (defScope s__law_lifted) .none kV30 dc30 pm30 an30 cd30 ct30), sl30⟩) (c30 : PySem.W.codeIn K cd30 "_law_lifted" = true) (k30 : PySem.W.keepIn K (.ref f30) = true)
    (a31 : PySem.W.nsIn K mainGlobals "_law_spoilt" = some (some (.ref f31))) (l31 : K.lookup f31 = some ⟨oc31, od31, .func (PySem.W.fnOf "_law_spoilt" "_law_spoilt" (defArgs s__law_spoilt) (defBody s__law_spoilt) (defScope s__law_spoilt) .none kV31 dc31 pm31 an31 cd31 ct31), sl31⟩) (c31 : PySem.W.codeIn K cd31 "_law_spoilt" = true) (k31 : PySem.W.keepIn K (.ref f31) = true)
    (a32 : PySem.W.nsIn K mainGlobals "_law_refused" = some (some (.ref f32))) (l32 : K.lookup f32 = some ⟨oc32, od32, .func (PySem.W.fnOf "_law_refused" "_law_refused" (defArgs s__law_refused) (defBody s__law_refused) (defScope s__law_refused) .none kV32 dc32 pm32 an32 cd32 ct32), sl32⟩) (c32 : PySem.W.codeIn K cd32 "_law_refused" = true) (k32 : PySem.W.keepIn K (.ref f32) = true)
    (a33 : PySem.W.nsIn K mainGlobals "law" = some (some (.ref f33))) (l33 : K.lookup f33 = some ⟨oc33, od33, .func (PySem.W.fnOf "law" "law" (defArgs s_law) (defBody s_law) (defScope s_law) .none kV33 dc33 pm33 an33 cd33 ct33), sl33⟩) (c33 : PySem.W.codeIn K cd33 "law" = true) (k33 : PySem.W.keepIn K (.ref f33) = true)
    (z0 : PySem.W.nsIn K mainGlobals "abs" = some none) (z1 : PySem.W.nsIn K mainGlobals "max" = some none) (z2 : PySem.W.nsIn K mainGlobals "min" = some none) (z3 : PySem.W.nsIn K mainGlobals "len" = some none) (z4 : PySem.W.nsIn K mainGlobals "range" = some none) (z5 : PySem.W.nsIn K mainGlobals "tuple" = some none) (z6 : PySem.W.nsIn K mainGlobals "int" = some none) (z7 : PySem.W.nsIn K mainGlobals "isinstance" = some none) (z8 : PySem.W.nsIn K mainGlobals "list" = some none) (z9 : PySem.W.nsIn K mainGlobals "reversed" = some none) (z10 : PySem.W.nsIn K mainGlobals "sum" = some none) :
    ∃ fd : FuncData, (∀ (s : Shared) (v : Value), BindsTo s fd ⟨[v], []⟩ [("script", v)]) ∧ ∀ base : Heap, K.In base → base.Ns mainGlobals mg → FnOk l.prog w K mg base CX0 8 fa fd ["script"] (spLaw K) := by
  have e := hfa.symm.trans (PySem.W.mg_of X G a33)
  cases e
  have T : Tx K mg t1 t2 := ⟨PySem.W.mg_none_of X G z0, PySem.W.mg_none_of X G z1, PySem.W.mg_none_of X G z2, PySem.W.mg_none_of X G z3, PySem.W.mg_none_of X G z4, PySem.W.mg_none_of X G z5, PySem.W.mg_none_of X G z6, PySem.W.mg_none_of X G z7, PySem.W.mg_none_of X G z8, PySem.W.mg_none_of X G z9, PySem.W.mg_none_of X G z10, PySem.W.mg_of X G aS0, PySem.W.mg_of X G aS1⟩
  have RC := clsOk.to rCR
  have TC : Tc K mg t1 t2 (fun i => [E0, E1, E2, E3, E4, E5, E6, E7, E8].getD i 0) SE CR := { toTx := T, m_ValueError := PySem.W.mg_none_of X G kVE, m_SightError := PySem.W.mg_of X G kSE, m_NoBoard := PySem.W.mg_of X G kCR, m_NoDeed := PySem.W.mg_of X G kE0, m_NoFrame := PySem.W.mg_of X G kE1, m_NoName := PySem.W.mg_of X G kE2, m_NoNumber := PySem.W.mg_of X G kE3, m_NoPlane := PySem.W.mg_of X G kE4, m_NoSpot := PySem.W.mg_of X G kE5, m_NoText := PySem.W.mg_of X G kE6, m_NotFree := PySem.W.mg_of X G kE7, m_TooMany := PySem.W.mg_of X G kE8, x_NoBoard := ⟨qCR, PySem.F.excBase_ValueError⟩, xc := RC.1, em := RC.2.1, kF := RC.2.2.1, kV := RC.2.2.2.1, kO := RC.2.2.2.2 }
  have A_sign_of := at_mk (st := s_sign_of) (ps := ["number"]) X G (fun _ _ _ _ _ _ us hl => match us, hl with | [_], _ => rfl) a0 l0 c0 k0
  have A_greatest_divisor := at_mk (st := s_greatest_divisor) (ps := ["one", "other"]) X G (fun _ _ _ _ _ _ us hl => match us, hl with | [_, _], _ => rfl) a1 l1 c1 k1
  have A_in_lowest_terms := at_mk (st := s_in_lowest_terms) (ps := ["numbers"]) X G (fun _ _ _ _ _ _ us hl => match us, hl with | [_], _ => rfl) a2 l2 c2 k2
  have A_crossed := at_mk (st := s_crossed) (ps := ["one", "other"]) X G (fun _ _ _ _ _ _ us hl => match us, hl with | [_, _], _ => rfl) a3 l3 c3 k3
  have A_determinant := at_mk (st := s_determinant) (ps := ["one", "other", "third"]) X G (fun _ _ _ _ _ _ us hl => match us, hl with | [_, _, _], _ => rfl) a4 l4 c4 k4
  have A_stands_first := at_mk (st := s_stands_first) (ps := ["one", "other"]) X G (fun _ _ _ _ _ _ us hl => match us, hl with | [_, _], _ => rfl) a5 l5 c5 k5
  have A_without := at_mk (st := s_without) (ps := ["spot", "place"]) X G (fun _ _ _ _ _ _ us hl => match us, hl with | [_, _], _ => rfl) a6 l6 c6 k6
  have A_minor_of := at_mk (st := s_minor_of) (ps := ["one", "other", "third", "place"]) X G (fun _ _ _ _ _ _ us hl => match us, hl with | [_, _, _, _], _ => rfl) a7 l7 c7 k7
  have A_in_line := at_mk (st := s_in_line) (ps := ["one", "other", "third"]) X G (fun _ _ _ _ _ _ us hl => match us, hl with | [_, _, _], _ => rfl) a8 l8 c8 k8
  have A_made_plane := at_mk (st := s_made_plane) (ps := ["a", "b", "c", "d"]) X G (fun _ _ _ _ _ _ us hl => match us, hl with | [_, _, _, _], _ => rfl) a9 l9 c9 k9
  have A_turned_about := at_mk (st := s_turned_about) (ps := ["plane"]) X G (fun _ _ _ _ _ _ us hl => match us, hl with | [_], _ => rfl) a10 l10 c10 k10
  have A_is_plain := at_mk (st := s_is_plain) (ps := ["plane"]) X G (fun _ _ _ _ _ _ us hl => match us, hl with | [_], _ => rfl) a11 l11 c11 k11
  have A_rough_plane := at_mk (st := s_rough_plane) (ps := ["one", "other", "third"]) X G (fun _ _ _ _ _ _ us hl => match us, hl with | [_, _, _], _ => rfl) a12 l12 c12 k12
  have A_plane_through := at_mk (st := s_plane_through) (ps := ["one", "other", "third"]) X G (fun _ _ _ _ _ _ us hl => match us, hl with | [_, _, _], _ => rfl) a13 l13 c13 k13
  have A_height_over := at_mk (st := s_height_over) (ps := ["plane", "spot"]) X G (fun _ _ _ _ _ _ us hl => match us, hl with | [_, _], _ => rfl) a14 l14 c14 k14
  have A_side_of := at_mk (st := s_side_of) (ps := ["plane", "spot"]) X G (fun _ _ _ _ _ _ us hl => match us, hl with | [_, _], _ => rfl) a15 l15 c15 k15
  have A_formed := at_mk (st := s_formed) (ps := ["corners"]) X G (fun _ _ _ _ _ _ us hl => match us, hl with | [_], _ => rfl) a16 l16 c16 k16
  have A_flat_axis := at_mk (st := s_flat_axis) (ps := ["plane"]) X G (fun _ _ _ _ _ _ us hl => match us, hl with | [_], _ => rfl) a17 l17 c17 k17
  have A_side_of_edge := at_mk (st := s_side_of_edge) (ps := ["edge", "spot", "axis"]) X G (fun _ _ _ _ _ _ us hl => match us, hl with | [_, _, _], _ => rfl) a18 l18 c18 k18
  have A_is_convex := at_mk (st := s_is_convex) (ps := ["corners", "axis"]) X G (fun _ _ _ _ _ _ us hl => match us, hl with | [_, _], _ => rfl) a19 l19 c19 k19
  have A_made_board := at_mk (st := s_made_board) (ps := ["corners"]) X G (fun _ _ _ _ _ _ us hl => match us, hl with | [_], _ => rfl) a20 l20 c20 k20
  have A__law_next := at_mk (st := s__law_next) (ps := ["left", "base"]) X G (fun _ _ _ _ _ _ us hl => match us, hl with | [_, _], _ => rfl) a21 l21 c21 k21
  have A__law_left := at_mk (st := s__law_left) (ps := ["cell"]) X G (fun _ _ _ _ _ _ us hl => match us, hl with | [_], _ => rfl) a22 l22 c22 k22
  have A__law_divisor := at_mk (st := s__law_divisor) (ps := ["numbers"]) X G (fun _ _ _ _ _ _ us hl => match us, hl with | [_], _ => rfl) a23 l23 c23 k23
  have A__law_lowest := at_mk (st := s__law_lowest) (ps := ["numbers"]) X G (fun _ _ _ _ _ _ us hl => match us, hl with | [_], _ => rfl) a24 l24 c24 k24
  have A__law_cross := at_mk (st := s__law_cross) (ps := ["one", "other"]) X G (fun _ _ _ _ _ _ us hl => match us, hl with | [_, _], _ => rfl) a25 l25 c25 k25
  have A__law_sheet := at_mk (st := s__law_sheet) (ps := ["left"]) X G (fun _ _ _ _ _ _ us hl => match us, hl with | [_], _ => rfl) a26 l26 c26 k26
  have A__law_spot := at_mk (st := s__law_spot) (ps := ["sheet", "place"]) X G (fun _ _ _ _ _ _ us hl => match us, hl with | [_, _], _ => rfl) a27 l27 c27 k27
  have A__law_bent := at_mk (st := s__law_bent) (ps := ["many"]) X G (fun _ _ _ _ _ _ us hl => match us, hl with | [_], _ => rfl) a28 l28 c28 k28
  have A__law_within := at_mk (st := s__law_within) (ps := ["shape"]) X G (fun _ _ _ _ _ _ us hl => match us, hl with | [_], _ => rfl) a29 l29 c29 k29
  have A__law_lifted := at_mk (st := s__law_lifted) (ps := ["spot", "sheet"]) X G (fun _ _ _ _ _ _ us hl => match us, hl with | [_, _], _ => rfl) a30 l30 c30 k30
  have A__law_spoilt := at_mk (st := s__law_spoilt) (ps := ["left", "sheet", "way"]) X G (fun _ _ _ _ _ _ us hl => match us, hl with | [_, _, _], _ => rfl) a31 l31 c31 k31
  have A__law_refused := at_mk (st := s__law_refused) (ps := ["corners"]) X G (fun _ _ _ _ _ _ us hl => match us, hl with | [_], _ => rfl) a32 l32 c32 k32
  have FL := fund_mk (st := s_law) l33 c33 k33
  refine ⟨PySem.W.fnOf "law" "law" (defArgs s_law) (defBody s_law) (defScope s_law) .none kV33 dc33 pm33 an33 cd33 ct33, fun s v => .of_eq rfl, fun base _ _ => ?_⟩
  have D0 := ok_sign (P := l.prog) (w := w) (base := base) T A_sign_of
  have D1 := ok_gd (P := l.prog) (w := w) (base := base) T A_greatest_divisor
  have D2 := ok_low (P := l.prog) (w := w) (base := base) T A_in_lowest_terms D1
  have D3 := ok_crossed (P := l.prog) (w := w) (base := base) T A_crossed
  have D4 := ok_det (P := l.prog) (w := w) (base := base) T A_determinant D3
  have D5 := ok_first (P := l.prog) (w := w) (base := base) T A_stands_first
  have D6 := ok_without (P := l.prog) (w := w) (base := base) T A_without
  have D7 := ok_minor (P := l.prog) (w := w) (base := base) T A_minor_of D6 D4
  have D8 := ok_line (P := l.prog) (w := w) (base := base) T A_in_line D7
  have D9 := ok_plane (P := l.prog) (w := w) (base := base) T A_made_plane D2
  have D10 := ok_turned (P := l.prog) (w := w) (base := base) T A_turned_about
  have D11 := ok_plain (P := l.prog) (w := w) (base := base) T A_is_plain
  have D12 := ok_rough (P := l.prog) (w := w) (base := base) T A_rough_plane D7
  have D13 := ok_through (P := l.prog) (w := w) (base := base) T A_plane_through D12 D9 D11 D10
  have D14 := ok_ht (P := l.prog) (w := w) (base := base) T A_height_over
  have D15 := ok_side (P := l.prog) (w := w) (base := base) T A_side_of D0 D14
  have D16 := ok_formed (P := l.prog) (w := w) (base := base) T A_formed D5
  have D17 := ok_axis (P := l.prog) (w := w) (base := base) T A_flat_axis
  have D18 := ok_edge (P := l.prog) (w := w) (base := base) T A_side_of_edge D0 D7
  have D19 := ok_cvxB (P := l.prog) (w := w) (base := base) T A_is_convex D18
  have D20 := ok_boardX (P := l.prog) (w := w) (base := base) TC A_made_board D8 D13 D15 D17 D19 D16
  have D21 := ok_next (P := l.prog) (w := w) (base := base) T A__law_next
  have D22 := ok_left (P := l.prog) (w := w) (base := base) T A__law_left
  have D23 := ok_divl (P := l.prog) (w := w) (base := base) T A__law_divisor
  have D24 := ok_lowl (P := l.prog) (w := w) (base := base) T A__law_lowest D23
  have D25 := ok_lcross (P := l.prog) (w := w) (base := base) T A__law_cross
  have D26 := ok_sheet (P := l.prog) (w := w) (base := base) T A__law_sheet D21 D25
  have D27 := ok_spot (P := l.prog) (w := w) (base := base) T A__law_spot D24
  have D28 := ok_bent (P := l.prog) (w := w) (base := base) T A__law_bent
  have D29 := ok_within (P := l.prog) (w := w) (base := base) T A__law_within
  have D30 := ok_lifted (P := l.prog) (w := w) (base := base) T A__law_lifted D25 D24
  have D31 := ok_spoilt (P := l.prog) (w := w) (base := base) T A__law_spoilt D28 D21 D29 D27 D30
  have D32 := ok_refused (P := l.prog) (w := w) (base := base) TC A__law_refused D20
  exact ok_law TC FL D22 D26 D27 D28 D21 D20 D32 D31
theorem walk {l : PySem.W.OpenLaw} {q : Program} {loose : List Str} {XP : (Str → Option Value) → Heap → Prop} {YP : World → Heap → Prop} {d : DefRec} {K : Params → PySem.W.Frag} (hn : l.most = some 63) (hdf : d.params.defaults = [])
    (hY : ∀ (w : World) (h : Heap), YP w h → (K w.params).In h)
    (F : ∀ (w : World) (mg : Str → Option Value) (fa : Addr) (h : Heap), (K w.params).In h → h.Ns mainGlobals mg → mg d.name = some (.ref fa) →
      ∃ fd : FuncData, (∀ (s : Shared) (u : Value), BindsTo s fd ⟨[u], []⟩ [("script", u)]) ∧ ∀ base : Heap, (K w.params).In base → base.Ns mainGlobals mg → FnOk l.prog w (K w.params) mg base CX0 8 fa fd ["script"] (spLaw (K w.params))) :
    PySem.W.WalkO q loose XP YP l.row.toRowW d [] (fun f vs => PySem.call f vs) :=
  L2.walk_of (n := 63) (k := 8) (x := "script") (CX := fun _ => CX0) (sp := fun w => spLaw (K w.params)) hn (by decide) hdf ⟨rfl, by decide, by decide⟩ hY F (fun _ _ a ns hl _ hS => ⟨a, ns, rfl, hS, hl, fun _ => rfl⟩) fun _ _ _ _ _ z => z
end My
def PySem.W.Fast.tw1008181177635340124 : Unit := ()
def PySem.W.Fast.tw10234768754606326079 : Unit := ()
def PySem.W.Fast.tw10716139647937766129 : Unit := ()
def PySem.W.Fast.tw12001846611025774528 : Unit := ()
def PySem.W.Fast.tw12774304696942727833 : Unit := ()
def PySem.W.Fast.tw13042141982046371246 : Unit := ()
def PySem.W.Fast.tw13431773386807278336 : Unit := ()
def PySem.W.Fast.tw13602445361127709510 : Unit := ()
def PySem.W.Fast.tw13673429684406144968 : Unit := ()
def PySem.W.Fast.tw13720658842190872833 : Unit := ()
def PySem.W.Fast.tw13904576437040858112 : Unit := ()
def PySem.W.Fast.tw14409976227842039813 : Unit := ()
def PySem.W.Fast.tw14424829313720054990 : Unit := ()
def PySem.W.Fast.tw1450142163763800065 : Unit := ()
def PySem.W.Fast.tw14908716404671834989 : Unit := ()
def PySem.W.Fast.tw15102771304908144695 : Unit := ()
def PySem.W.Fast.tw15728324172534162539 : Unit := ()
def PySem.W.Fast.tw15950851168510718258 : Unit := ()
def PySem.W.Fast.tw15978777593578623245 : Unit := ()
def PySem.W.Fast.tw16020955056065263777 : Unit := ()
def PySem.W.Fast.tw16244879803956784002 : Unit := ()
def PySem.W.Fast.tw1673102083491060960 : Unit := ()
def PySem.W.Fast.tw16880153591236213659 : Unit := ()
def PySem.W.Fast.tw17090348202272821744 : Unit := ()
def PySem.W.Fast.tw18142031703388169595 : Unit := ()
def PySem.W.Fast.tw216476073996068501 : Unit := ()
def PySem.W.Fast.tw2719041849404081285 : Unit := ()
def PySem.W.Fast.tw2910656281158183326 : Unit := ()
def PySem.W.Fast.tw4204264686981892624 : Unit := ()
def PySem.W.Fast.tw4225220796291337473 : Unit := ()
def PySem.W.Fast.tw4403676406953629883 : Unit := ()
def PySem.W.Fast.tw4411817978276035425 : Unit := ()
def PySem.W.Fast.tw5383887069105139187 : Unit := ()
def PySem.W.Fast.tw5389173816032235866 : Unit := ()
def PySem.W.Fast.tw6374742279188773191 : Unit := ()
def PySem.W.Fast.tw6758614046720300409 : Unit := ()
def PySem.W.Fast.tw6966348163749905656 : Unit := ()
def PySem.W.Fast.tw7370896548609327069 : Unit := ()
def PySem.W.Fast.tw8114262398199231911 : Unit := ()
def PySem.W.Fast.tw8511458268909364242 : Unit := ()
def PySem.W.Fast.tw9272326127396993603 : Unit := ()
def PySem.W.Fast.tw9290043687770691189 : Unit := ()
def PySem.W.Fast.tw9599764583047040230 : Unit := ()
def PySem.W.Fast.tw9701871957662701806 : Unit := ()
def PySem.W.Fast.tw9811323378010338464 : Unit := ()
open PySem PySem.W PyProof.Rows
set_option maxRecDepth 100000 in
set_option maxHeartbeats 0 in
theorem PySem.Challenge.cw_boardsight_k13_boards_refused_holds : PySem.Challenge.rw_boardsight_k13_boards_refused.Holds := by
  w_on; o_law; k_head; (case hw => w_witness2)
  k_fill
  refine My.walk (l := PySem.Challenge.rw_boardsight_k13_boards_refused) rfl rfl (fun w h Y => PySem.W.kIn_of Y) ?F
  case F =>
    intro w mg fa h KX G hmg
    refine' My.all_mk KX G hmg ?kSE ?kCR ?kVE ?kE0 ?kE1 ?kE2 ?kE3 ?kE4 ?kE5 ?kE6 ?kE7 ?kE8 ?qCR ?rCR ?aS0 ?aS1 ?a0 ?l0 ?c0 ?k0 ?a1 ?l1 ?c1 ?k1 ?a2 ?l2 ?c2 ?k2 ?a3 ?l3 ?c3 ?k3 ?a4 ?l4 ?c4 ?k4 ?a5 ?l5 ?c5 ?k5 ?a6 ?l6 ?c6 ?k6 ?a7 ?l7 ?c7 ?k7 ?a8 ?l8 ?c8 ?k8 ?a9 ?l9 ?c9 ?k9 ?a10 ?l10 ?c10 ?k10 ?a11 ?l11 ?c11 ?k11 ?a12 ?l12 ?c12 ?k12 ?a13 ?l13 ?c13 ?k13 ?a14 ?l14 ?c14 ?k14 ?a15 ?l15 ?c15 ?k15 ?a16 ?l16 ?c16 ?k16 ?a17 ?l17 ?c17 ?k17 ?a18 ?l18 ?c18 ?k18 ?a19 ?l19 ?c19 ?k19 ?a20 ?l20 ?c20 ?k20 ?a21 ?l21 ?c21 ?k21 ?a22 ?l22 ?c22 ?k22 ?a23 ?l23 ?c23 ?k23 ?a24 ?l24 ?c24 ?k24 ?a25 ?l25 ?c25 ?k25 ?a26 ?l26 ?c26 ?k26 ?a27 ?l27 ?c27 ?k27 ?a28 ?l28 ?c28 ?k28 ?a29 ?l29 ?c29 ?k29 ?a30 ?l30 ?c30 ?k30 ?a31 ?l31 ?c31 ?k31 ?a32 ?l32 ?c32 ?k32 ?a33 ?l33 ?c33 ?k33 ?z0 ?z1 ?z2 ?z3 ?z4 ?z5 ?z6 ?z7 ?z8 ?z9 ?z10
    (case kSE => k_is)
    (case kCR => k_is)
    (case kVE => k_is)
    (case kE0 => k_is)
    (case kE1 => k_is)
    (case kE2 => k_is)
    (case kE3 => k_is)
    (case kE4 => k_is)
    (case kE5 => k_is)
    (case kE6 => k_is)
    (case kE7 => k_is)
    (case kE8 => k_is)
    (case qCR => first | k_exc | kernel_rfl | k_is)
    (case rCR => first | kernel_rfl | k_is)
    (case aS0 => k_is)
    (case aS1 => k_is)
    (case a0 => k_is)
    (case l0 => k_is)
    (case c0 => k_is)
    (case k0 => k_is)
    (case a1 => k_is)
    (case l1 => k_is)
    (case c1 => k_is)
    (case k1 => k_is)
    (case a2 => k_is)
    (case l2 => k_is)
    (case c2 => k_is)
    (case k2 => k_is)
    (case a3 => k_is)
    (case l3 => k_is)
    (case c3 => k_is)
    (case k3 => k_is)
    (case a4 => k_is)
    (case l4 => k_is)
    (case c4 => k_is)
    (case k4 => k_is)
    (case a5 => k_is)
    (case l5 => k_is)
    (case c5 => k_is)
    (case k5 => k_is)
    (case a6 => k_is)
    (case l6 => k_is)
    (case c6 => k_is)
    (case k6 => k_is)
    (case a7 => k_is)
    (case l7 => k_is)
    (case c7 => k_is)
    (case k7 => k_is)
    (case a8 => k_is)
    (case l8 => k_is)
    (case c8 => k_is)
    (case k8 => k_is)
    (case a9 => k_is)
    (case l9 => k_is)
    (case c9 => k_is)
    (case k9 => k_is)
    (case a10 => k_is)
    (case l10 => k_is)
    (case c10 => k_is)
    (case k10 => k_is)
    (case a11 => k_is)
    (case l11 => k_is)
    (case c11 => k_is)
    (case k11 => k_is)
    (case a12 => k_is)
    (case l12 => k_is)
    (case c12 => k_is)
    (case k12 => k_is)
    (case a13 => k_is)
    (case l13 => k_is)
    (case c13 => k_is)
    (case k13 => k_is)
    (case a14 => k_is)
    (case l14 => k_is)
    (case c14 => k_is)
    (case k14 => k_is)
    (case a15 => k_is)
    (case l15 => k_is)
    (case c15 => k_is)
    (case k15 => k_is)
    (case a16 => k_is)
    (case l16 => k_is)
    (case c16 => k_is)
    (case k16 => k_is)
    (case a17 => k_is)
    (case l17 => k_is)
    (case c17 => k_is)
    (case k17 => k_is)
    (case a18 => k_is)
    (case l18 => k_is)
    (case c18 => k_is)
    (case k18 => k_is)
    (case a19 => k_is)
    (case l19 => k_is)
    (case c19 => k_is)
    (case k19 => k_is)
    (case a20 => k_is)
    (case l20 => k_is)
    (case c20 => k_is)
    (case k20 => k_is)
    (case a21 => k_is)
    (case l21 => k_is)
    (case c21 => k_is)
    (case k21 => k_is)
    (case a22 => k_is)
    (case l22 => k_is)
    (case c22 => k_is)
    (case k22 => k_is)
    (case a23 => k_is)
    (case l23 => k_is)
    (case c23 => k_is)
    (case k23 => k_is)
    (case a24 => k_is)
    (case l24 => k_is)
    (case c24 => k_is)
    (case k24 => k_is)
    (case a25 => k_is)
    (case l25 => k_is)
    (case c25 => k_is)
    (case k25 => k_is)
    (case a26 => k_is)
    (case l26 => k_is)
    (case c26 => k_is)
    (case k26 => k_is)
    (case a27 => k_is)
    (case l27 => k_is)
    (case c27 => k_is)
    (case k27 => k_is)
    (case a28 => k_is)
    (case l28 => k_is)
    (case c28 => k_is)
    (case k28 => k_is)
    (case a29 => k_is)
    (case l29 => k_is)
    (case c29 => k_is)
    (case k29 => k_is)
    (case a30 => k_is)
    (case l30 => k_is)
    (case c30 => k_is)
    (case k30 => k_is)
    (case a31 => k_is)
    (case l31 => k_is)
    (case c31 => k_is)
    (case k31 => k_is)
    (case a32 => k_is)
    (case l32 => k_is)
    (case c32 => k_is)
    (case k32 => k_is)
    (case a33 => k_is)
    (case l33 => k_is)
    (case c33 => k_is)
    (case k33 => k_is)
    (case z0 => k_is)
    (case z1 => k_is)
    (case z2 => k_is)
    (case z3 => k_is)
    (case z4 => k_is)
    (case z5 => k_is)
    (case z6 => k_is)
    (case z7 => k_is)
    (case z8 => k_is)
    (case z9 => k_is)
    (case z10 => k_is)


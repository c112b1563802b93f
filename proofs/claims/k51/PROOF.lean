import PyProof.Rows.All
import Wide.All
import OpenK.AllK
import Wide.FinOn
import PyProof.EqAt
import PyProof.EqKinds
import PyProof.TupleCall
import Lean
import PySem.Challenge.RW_shiftmeet_k51_pair_plans
-- CHANGE: your row's module here, as the last of these rows
set_option Elab.async false
set_option linter.all false
set_option maxRecDepth 100000
/-! THE HAND LAYER, for ints, bools, texts, own classes, LISTS and tuples (index, slices, in, append, pop ..), calls, loops. Paste it whole ahead of your own text; what your proof does not reach may be deleted. -/
namespace L2
open PySem PySem.Spec PyProof.Rows

/-- a key: an int or a str -/
abbrev Key := Sum Int Str
def keyIs : Key → Value → Bool
  | .inl k, v => Value.isInt k v
  | .inr x, v => Value.isStrOf x v
def keyH (w : World) : Key → Int
  | .inl k => hashInt k
  | .inr x => hashStr w x
theorem keyIs_shape : ∀ {k : Key} {v : Value}, keyIs k v = true → (∃ i t, k = Sum.inl i ∧ v = Value.int i t) ∨ (∃ x t, k = Sum.inr x ∧ v = Value.str x t)
  | .inl i, v, h => by
    obtain ⟨t, e⟩ := Value.isInt_shape (k := i) (v := v) h
    exact .inl ⟨i, t, rfl, e⟩
  | .inr x, v, h => by
    obtain ⟨t, e⟩ := Value.isStrOf_shape (x := x) (v := v) h
    exact .inr ⟨x, t, rfl, e⟩
theorem key_ll (a b : Int) : decide ((Sum.inl a : Key) = Sum.inl b) = (a == b) := by
  by_cases e : a = b
  · subst e; simp
  · have h : ¬ (Sum.inl a : Key) = Sum.inl b := fun q => e (Sum.inl.inj q)
    rw [decide_eq_false h]
    exact (beq_eq_false_iff_ne.mpr e).symm
theorem key_rr (a b : Str) : decide ((Sum.inr a : Key) = Sum.inr b) = decide (a = b) := by
  by_cases e : a = b
  · subst e; simp
  · have h : ¬ (Sum.inr a : Key) = Sum.inr b := fun q => e (Sum.inr.inj q)
    rw [decide_eq_false h, decide_eq_false e]
theorem key_lr (a : Int) (b : Str) : decide ((Sum.inl a : Key) = Sum.inr b) = false := decide_eq_false (fun q => nomatch q)
theorem key_rl (a : Str) (b : Int) : decide ((Sum.inr a : Key) = Sum.inl b) = false := decide_eq_false (fun q => nomatch q)

def mixKind (prog : Program) (w : World) : PySem.KeyKind prog w Key where
  is := keyIs
  hash := keyH w
  inj := fun v a b ha hb => by
    rcases keyIs_shape ha with ⟨i, t, rfl, rfl⟩ | ⟨x, t, rfl, rfl⟩
    · rcases keyIs_shape hb with ⟨j, u, rfl, e⟩ | ⟨y, u, rfl, e⟩
      · injection e with e1 _; rw [e1]
      · exact nomatch e
    · rcases keyIs_shape hb with ⟨j, u, rfl, e⟩ | ⟨y, u, rfl, e⟩
      · exact nomatch e
      · injection e with e1 _; rw [e1]
  byValue := fun k v h => by
    rcases keyIs_shape h with ⟨i, t, rfl, rfl⟩ | ⟨x, t, rfl, rfl⟩ <;> rfl
  pyHash := fun hv h => by
    rcases keyIs_shape hv with ⟨i, t, rfl, rfl⟩ | ⟨x, t, rfl, rfl⟩
    · exact wpAny_pyHash_int h
    · exact wpAny_pyHash_str h
  eqBool := fun hu hv h => by
    rcases keyIs_shape hu with ⟨i, t, rfl, rfl⟩ | ⟨x, t, rfl, rfl⟩
    · rcases keyIs_shape hv with ⟨j, u, rfl, rfl⟩ | ⟨y, u, rfl, rfl⟩
      · rw [key_ll] at h; exact wpAny_eqBool_int h
      · rw [key_lr] at h; exact SeqAt.EqAt.int_str i t y u _ _ _ _ h
    · rcases keyIs_shape hv with ⟨j, u, rfl, rfl⟩ | ⟨y, u, rfl, rfl⟩
      · rw [key_rl] at h; exact SeqAt.EqAt.str_int x t j u _ _ _ _ h
      · rw [key_rr] at h; exact wpAny_eqBool_str h
  «strs» := fun k x t v h => by
    rcases keyIs_shape h with ⟨i, u, rfl, e⟩ | ⟨y, u, rfl, e⟩
    · exact nomatch e
    · injection e with e1 _
      subst e1
      cases v <;> rfl

end L2

namespace L2
open PySem PySem.Spec PyProof.Rows

/-- a value, without the heap -/
inductive V where
  | non | bl (b : Bool) | int (i : Int) | str (x : Str) | byt (b : Array UInt8) | flt (b : UInt64) | ref (a : Addr) | ty (n : String)
  deriving DecidableEq

def RelV : V → Value → Prop
  | .non, u => u = Value.none
  | .bl b, u => u = Value.bool b
  | .int i, u => ∃ t, u = Value.int i t
  | .str x, u => ∃ t, u = Value.str x t
  | .byt b, u => ∃ t, u = Value.bytes b t
  | .flt b, u => ∃ t, u = Value.float b t
  | .ref a, u => u = Value.ref a
  | .ty n, u => u = Value.type n

abbrev Vals : List V → List Value → Prop := Paired RelV
theorem Vals.length {xs : List V} {us : List Value} (r : Vals xs us) : xs.length = us.length := Paired.length r
theorem Vals.get : ∀ {xs : List V} {us : List Value} {i : Nat} {x : V}, Vals xs us → xs[i]? = some x → ∃ u, us[i]? = some u ∧ RelV x u
  | _, _, _, _, .nil, e => by simp at e
  | _, _, 0, _, .cons r _, e => by simp at e; subst e; exact ⟨_, rfl, r⟩
  | _, _, i + 1, x, .cons _ t, e => by
    obtain ⟨u, h1, h2⟩ := Vals.get (i := i) (x := x) t (by simpa using e)
    exact ⟨u, by simpa using h1, h2⟩
theorem Vals.set {x : V} {u : Value} (r : RelV x u) : ∀ {xs : List V} {us : List Value} (i : Nat), Vals xs us → Vals (xs.set i x) (us.set i u)
  | _, _, _, .nil => .nil
  | _, _, 0, .cons _ t => .cons r t
  | _, _, i + 1, .cons q t => .cons q (Vals.set r i t)
theorem Vals.append : ∀ {xs ys : List V} {us ws : List Value}, Vals xs us → Vals ys ws → Vals (xs ++ ys) (us ++ ws)
  | _, _, _, _, .nil, s => s
  | _, _, _, _, .cons r t, s => .cons r (Vals.append t s)
theorem Vals.take : ∀ {xs : List V} {us : List Value} (n : Nat), Vals xs us → Vals (xs.take n) (us.take n)
  | _, _, 0, _ => .nil
  | _, _, _ + 1, .nil => .nil
  | _, _, n + 1, .cons r t => .cons r (Vals.take n t)
def RelO : Option V → Option Value → Prop
  | some v, some u => RelV v u
  | none, none => True
  | _, _ => False
def KV {κ : Type} : List (κ × V) → List (κ × Value) → Prop := Paired fun (p : κ × V) (q : κ × Value) => p.1 = q.1 ∧ RelV p.2 q.2

/-- a key of a dict (00_mix): an int or a text -/
def kV : Key → V
  | .inl i => .int i
  | .inr x => .str x

/-- what stands at a tracked address -/
inductive HO where
  /-- a list -/
  | lst (xs : List V)
  /-- a tuple (never changes) -/
  | tup (xs : List V)
  /-- a dict whose keys are ints and texts; one whose keys are tuples of ints and texts (the empty one is both) -/
  | dK (kvs : List (Key × V)) | dT (kvs : List (List Key × V))
  /-- a set of ints: its members, its size -/
  | set (S : Int → Bool) (n : Nat)
  /-- an instance of the class at C, its dict at dx, its attributes -/
  | ins (C dx : Addr) (fs : List (Str × V))
  /-- the dict of the instance at x -/
  | own (x : Addr)
  /-- the dict of an exception -/
  | xd (fs : List (Str × V))
  /-- a bound method, f of x -/
  | met (f x : Addr)
  /-- a range object lo, lo + 1, .. below hi -/
  | rng (lo hi : Int)
  /-- a thing that is known to the object (the script; a dict while a loop walks it): read, never written while it is so -/
  | frz (o : Obj) (u : HO)
  /-- a code object's table -/
  | tbl (ps : Array Value)
  /-- any other thing, by what is true of its one object (a def of one's own: SetO a S n := HO.ext fun h => ..) -/
  | ext (φ : Heap → Prop)

abbrev Hp := Addr → Option HO
def upd (H : Hp) (a : Addr) (o : HO) : Hp := fun b => if b = a then some o else H b
theorem upd_same {H : Hp} {a : Addr} {o : HO} : upd H a o a = some o := by unfold upd; rw [if_pos rfl]
theorem upd_ne {H : Hp} {a b : Addr} {o : HO} (h : b ≠ a) : upd H a o b = H b := by unfold upd; rw [if_neg h]
/-- two objects of different content stand apart -/
theorem ne_of {H : Hp} {a b : Addr} {o u : HO} (h : H a = some o) (h' : H b = some u) (d : o ≠ u) : a ≠ b := by
  intro e; subst e; rw [h] at h'; exact d (Option.some.inj h')
theorem ne_of_none {H : Hp} {a b : Addr} {o : HO} (h : H a = some o) (h' : H b = none) : a ≠ b := by
  intro e; subst e; rw [h] at h'; cases h'

section
variable (P : Program) (w : World)
def ObjOk (H : Hp) (h : Heap) (a : Addr) : HO → Prop
  | .lst xs => xs.length ≤ sizeLine ∧ ∃ (its : List Value) (n : Nat), Vals xs its ∧ h.get? a = some { cls := .type "list", data := .seq its.toArray n }
  | .tup xs => xs.length ≤ sizeLine ∧ ∃ its : List Value, Vals xs its ∧ IsTup h a its.toArray
  | .dK kvs => kvs.length ≤ sizeLine ∧ (a == sysModules) = false ∧ ∃ vs, KV kvs vs ∧ h.DictOf (mixKind P w) a vs
  | .dT kvs => kvs.length ≤ sizeLine ∧ (a == sysModules) = false ∧ ∃ xs : List (List Key × Addr × Value),
      Paired (fun (p : List Key × V) (q : List Key × Addr × Value) => p.1 = q.1 ∧ H q.2.1 = some (.tup (p.1.map kV)) ∧ RelV p.2 q.2.2) kvs xs ∧
      ∃ o es ep, h.get? a = some o ∧ o.ExactDict ∧ o.data = .dict es ep ∧ es.toList = xs.map (entryOfKey (tupleKind (mixKind P w))) ∧ (xs.map (·.1)).Nodup
  | .set S n => h.SetOf (intKind P w) a S n
  | .ins C dx fs => H dx = some (.own a) ∧ fs.length ≤ 1000 ∧ dx ≠ a ∧ h.get? a = some (PySem.W.instObj C dx) ∧
      ∃ mA, h.Ns1 dx mA ∧ (∀ f, RelO (fs.lookup f) (mA f)) ∧ PySem.Within mA (fs.map (·.1))
  | .own _ => ∃ o, h.get? a = some o
  | .xd fs => ∃ mA, h.Ns1 a mA ∧ ∀ f, RelO (fs.lookup f) (mA f)
  | .rng lo hi => ∃ t u v, h.get? a = some { cls := .type "range", data := .fields #[.int lo t, .int hi u, .int 1 v] }
  | .frz o u => h.get? a = some o ∧ ObjOk H h a u
  | .tbl ps => h.get? a = some { cls := .none, data := .fields ps }
  | .met f x => h.get? a = some (PySem.W.methodObj (.ref f) (.ref x))
  | .ext φ => φ h ∧ (∃ o, h.get? a = some o) ∧ ∀ h1 h2 : Heap, φ h1 → (∀ o, h1.get? a = some o → h2.get? a = some o) → φ h2
/-- the abstract heap is held -/
def HOk (H : Hp) (h : Heap) : Prop := ∀ a o, H a = some o → ObjOk P w H h a o
end

section
variable {P : Program} {w : World} {H H' : Hp} {h h' : Heap} {a : Addr} {o : HO}
theorem ObjOk.lt (x : ObjOk P w H h a o) : a < h.objs.size := by
  cases o with
  | lst xs => obtain ⟨_, _, _, _, e⟩ := x; exact Heap.lt_size e
  | tup xs => obtain ⟨_, _, _, p⟩ := x; exact p.lt
  | dK kvs => obtain ⟨_, _, _, _, o, _, _, e, _⟩ := x; exact Heap.lt_size e
  | dT kvs => obtain ⟨_, _, _, _, o, _, _, e, _⟩ := x; exact Heap.lt_size e
  | set S n => obtain ⟨o, _, _, _, e, _⟩ := x; exact Heap.lt_size e
  | ins C dx fs => obtain ⟨_, _, _, e, _⟩ := x; exact Heap.lt_size e
  | own y => obtain ⟨_, e⟩ := x; exact Heap.lt_size e
  | xd fs => obtain ⟨_, ⟨_, _, _, e, _⟩, _⟩ := x; exact Heap.lt_size e
  | rng lo hi => obtain ⟨_, _, _, e⟩ := x; exact Heap.lt_size e
  | frz ob u => obtain ⟨e, _⟩ := x; exact Heap.lt_size e
  | tbl ps => exact Heap.lt_size (show h.get? a = some _ from x)
  | met f y => exact Heap.lt_size (show h.get? a = some _ from x)
  | ext φ => obtain ⟨_, ⟨_, e⟩, _⟩ := x; exact Heap.lt_size e
theorem Paired.mapP {α β : Type} {F G : α → β → Prop} : ∀ {l₁ : List α} {l₂ : List β}, Paired F l₁ l₂ → (∀ a b, F a b → G a b) → Paired G l₁ l₂
  | _, _, .nil, _ => .nil
  | _, _, .cons r t, f => .cons (f _ _ r) (Paired.mapP t f)
/-- what an object's description leans on: its own object, its own dict, the tuples -/
theorem ObjOk.stay (x : ObjOk P w H h a o) (k : ∀ b u, (b = a ∨ H b = some (.own a)) → h.get? b = some u → h'.get? b = some u)
    (ho : ∀ b, H b = some (.own a) → H' b = some (.own a)) (ht : ∀ b xs, H b = some (.tup xs) → H' b = some (.tup xs)) : ObjOk P w H' h' a o := by
  induction o with
  | lst xs => obtain ⟨z, its, n, r, e⟩ := x; exact ⟨z, its, n, r, k _ _ (.inl rfl) e⟩
  | tup xs => obtain ⟨z, its, r, ob, e, c⟩ := x; exact ⟨z, its, r, ob, k _ _ (.inl rfl) e, c⟩
  | dK kvs => obtain ⟨z, y, vs, r, ob, es, ep, e, c⟩ := x; exact ⟨z, y, vs, r, ob, es, ep, k _ _ (.inl rfl) e, c⟩
  | dT kvs =>
    obtain ⟨z, y, xs, r, ob, es, ep, e, c⟩ := x
    exact ⟨z, y, xs, Paired.mapP r fun p q z => ⟨z.1, ht _ _ z.2.1, z.2.2⟩, ob, es, ep, k _ _ (.inl rfl) e, c⟩
  | set S n => obtain ⟨ob, es, ep, t, e, c⟩ := x; exact ⟨ob, es, ep, t, k _ _ (.inl rfl) e, c⟩
  | ins C dx fs =>
    obtain ⟨d, z, ne, e, mA, ⟨od, es, ep, e2, c⟩, r⟩ := x
    exact ⟨ho _ d, z, ne, k _ _ (.inl rfl) e, mA, ⟨od, es, ep, k _ _ (.inr d) e2, c⟩, r⟩
  | own y => obtain ⟨ob, e⟩ := x; exact ⟨ob, k _ _ (.inl rfl) e⟩
  | xd fs => obtain ⟨mA, ⟨od, es, ep, e, c⟩, r⟩ := x; exact ⟨mA, ⟨od, es, ep, k _ _ (.inl rfl) e, c⟩, r⟩
  | rng lo hi => obtain ⟨t, u, v, e⟩ := x; exact ⟨t, u, v, k _ _ (.inl rfl) e⟩
  | frz ob u ih => obtain ⟨e, q⟩ := x; exact ⟨k _ _ (.inl rfl) e, ih q⟩
  | tbl ps =>
    have e : h.get? a = some { cls := .none, data := .fields ps } := x
    show h'.get? a = some { cls := .none, data := .fields ps }
    exact k a _ (.inl rfl) e
  | met f y =>
    have e : h.get? a = some (PySem.W.methodObj (.ref f) (.ref y)) := x
    show h'.get? a = some (PySem.W.methodObj (.ref f) (.ref y))
    exact k a _ (.inl rfl) e
  | ext φ => obtain ⟨p, ⟨o, e⟩, st⟩ := x; exact ⟨st _ _ p fun o q => k _ _ (.inl rfl) q, ⟨o, k _ _ (.inl rfl) e⟩, st⟩
theorem HOk.lt (x : HOk P w H h) (e : H a = some o) : a < h.objs.size := (x a o e).lt
theorem HOk.fresh (x : HOk P w H h) (e : h.objs.size ≤ a) : H a = none := by
  cases q : H a with
  | none => rfl
  | some u => exact absurd (Nat.lt_of_lt_of_le (x.lt q) e) (Nat.lt_irrefl _)
/-- every object of the heap is kept -/
theorem HOk.kept (x : HOk P w H h) (k : ∀ b u, h.get? b = some u → h'.get? b = some u) : HOk P w H h' := fun a o e =>
  (x a o e).stay (fun b u _ q => k b u q) (fun _ q => q) fun _ _ q => q
/-- a new object is laid and tracked -/
theorem HOk.laid (x : HOk P w H h) (k : ∀ b u, h.get? b = some u → h'.get? b = some u) (hp : h.objs.size ≤ a) (new : ObjOk P w (upd H a o) h' a o) : HOk P w (upd H a o) h' := fun b u e => by
  have hn := x.fresh hp
  by_cases hb : b = a
  · subst hb; rw [upd_same] at e; cases e; exact new
  · rw [upd_ne hb] at e
    exact (x b u e).stay (fun c v _ q => k c v q) (fun c q => by rw [upd_ne (ne_of_none q hn)]; exact q) fun c xs q => by rw [upd_ne (ne_of_none q hn)]; exact q
end

/-- what may be read as u: it is u, or a known u -/
def Rd (H : Hp) (a : Addr) (u : HO) : Prop := H a = some u ∨ ∃ o, H a = some (.frz o u)
theorem Rd.of {H : Hp} {a : Addr} {u : HO} (h : H a = some u) : Rd H a u := .inl h
theorem Rd.ok {P : Program} {w : World} {H : Hp} {h : Heap} {a : Addr} {u : HO} (r : Rd H a u) (x : HOk P w H h) : ObjOk P w H h a u := by
  rcases r with r | ⟨o, r⟩
  · exact x a u r
  · obtain ⟨_, q⟩ := x a _ r
    exact q
/-- what may be written -/
def Mut : Option HO → Prop
  | some (.lst _) => True
  | some (.dK _) => True
  | some (.dT _) => True
  | some (.set _ _) => True
  | some (.ins _ _ _) => True
  | some (.ext _) => True
  | _ => False
section
variable {P : Program} {w : World} {H : Hp} {h h' : Heap} {x e : Addr} {o' : HO}
/-- the object at e is changed: x itself, or the dict of the instance x -/
theorem HOk.write (ok : HOk P w H h) (mu : Mut (H x)) (he : e = x ∨ H e = some (.own x)) (k : ∀ b u, b ≠ e → h.get? b = some u → h'.get? b = some u) (heo : ∃ u, h'.get? e = some u)
    (new : ObjOk P w (upd H x o') h' x o') : HOk P w (upd H x o') h' := fun b u q => by
  have nown : ∀ c y, H c = some (.own y) → c ≠ x := fun c y r z => by subst z; rw [r] at mu; exact mu
  have ntup : ∀ c xs, H c = some (.tup xs) → c ≠ x := fun c xs r z => by subst z; rw [r] at mu; exact mu
  by_cases hb : b = x
  · subst hb; rw [upd_same] at q; cases q; exact new
  · rw [upd_ne hb] at q
    by_cases hbe : b = e
    · have q' : H b = some (.own x) := by
        rcases he with z | z
        · exact absurd (hbe.trans z) hb
        · rw [hbe]; exact z
      rw [q] at q'; cases q'
      obtain ⟨v, hv⟩ := heo
      exact ⟨v, by rw [hbe]; exact hv⟩
    · refine (ok b u q).stay (fun c v hc r => k c v ?_ r) (fun c r => by rw [upd_ne (nown c b r)]; exact r) fun c xs r => by rw [upd_ne (ntup c xs r)]; exact r
      rcases hc with rfl | hc
      · exact hbe
      · rintro rfl
        rcases he with z | z
        · exact nown c b hc z
        · rw [hc] at z; cases z; exact hb rfl
end

/-! ### kept unless tracked; of the frames at fs (the callers') the slots may change (an exception that passes writes there); of the records at ex (iterators) nothing is said -/
structure Un (fs ex : List Addr) (H H' : Hp) (h h' : Heap) : Prop where
  keep : ∀ b o, h.get? b = some o → H b = none → b ∉ fs → b ∉ ex → h'.get? b = some o
  slot : ∀ b o, h.get? b = some o → H b = none → b ∈ fs → b ∉ ex → ∃ sl, h'.get? b = some { o with slots := sl }
  free : ∀ b o, h.get? b = some o → H b = none → b ∉ ex → H' b = none
  there : ∀ b o, h.get? b = some o → b ∉ ex → ∃ o', h'.get? b = some o'
  tups : ∀ b xs, H b = some (.tup xs) → H' b = some (.tup xs)
  frzs : ∀ b o u, H b = some (.frz o u) → H' b = some (.frz o u)
  tbls : ∀ b ps, H b = some (.tbl ps) → ∃ more, H' b = some (.tbl (ps ++ more))
section
variable {fs fs' ex ex' : List Addr} {H H1 H2 : Hp} {h h1 h2 h' : Heap} {a x e : Addr} {o : HO}
theorem Un.any (u : Un fs ex H H1 h h1) {b : Addr} {ob : Obj} (q : h.get? b = some ob) (n : H b = none) (hx : b ∉ ex) : ∃ sl, h1.get? b = some { ob with slots := sl } := by
  by_cases hb : b ∈ fs
  · exact u.slot b ob q n hb hx
  · exact ⟨ob.slots, u.keep b ob q n hb hx⟩
theorem Un.trans (a : Un fs ex H H1 h h1) (b : Un fs ex H1 H2 h1 h2) : Un fs ex H H2 h h2 where
  keep := fun c ob q n hc hx => b.keep c ob (a.keep c ob q n hc hx) (a.free c ob q n hx) hc hx
  slot := fun c ob q n hc hx => by
    obtain ⟨sl, e1⟩ := a.slot c ob q n hc hx
    obtain ⟨sl', e2⟩ := b.slot c _ e1 (a.free c ob q n hx) hc hx
    exact ⟨sl', e2⟩
  free := fun c ob q n hx => by
    obtain ⟨o', e1⟩ := a.there c ob q hx
    exact b.free c o' e1 (a.free c ob q n hx) hx
  there := fun c ob q hx => by
    obtain ⟨o', e1⟩ := a.there c ob q hx
    exact b.there c o' e1 hx
  tups := fun c xs q => b.tups c xs (a.tups c xs q)
  frzs := fun c ob xs q => b.frzs c ob xs (a.frzs c ob xs q)
  tbls := fun c ps q => by
    obtain ⟨m1, e1⟩ := a.tbls c ps q
    obtain ⟨m2, e2⟩ := b.tbls c _ e1
    exact ⟨m1 ++ m2, by rw [e2, Array.append_assoc]⟩
theorem Un.kept (k : ∀ b u, h.get? b = some u → h'.get? b = some u) : Un fs ex H H h h' :=
  ⟨fun b ob q _ _ _ => k b ob q, fun b ob q _ _ _ => ⟨ob.slots, k b ob q⟩, fun _ _ _ n _ => n, fun b ob q _ => ⟨ob, k b ob q⟩, fun _ _ q => q, fun _ _ _ q => q, fun _ ps q => ⟨#[], by rw [q]; simp⟩⟩
theorem Un.refl : Un fs ex H H h h := Un.kept fun _ _ q => q
theorem Un.laid (k : ∀ b u, h.get? b = some u → h'.get? b = some u) (hp : h.objs.size ≤ a) (hn : H a = none) : Un fs ex H (upd H a o) h h' where
  keep := fun b u q _ _ _ => k b u q
  slot := fun b u q _ _ _ => ⟨u.slots, k b u q⟩
  free := fun b u q n _ => by rw [upd_ne (Nat.ne_of_lt (Nat.lt_of_lt_of_le (Heap.lt_size q) hp))]; exact n
  there := fun b u q _ => ⟨u, k b u q⟩
  tups := fun b xs q => by rw [upd_ne (ne_of_none q hn)]; exact q
  frzs := fun b u xs q => by rw [upd_ne (ne_of_none q hn)]; exact q
  tbls := fun b ps q => ⟨#[], by rw [upd_ne (ne_of_none q hn), q]; simp⟩
theorem Un.write (mu : Mut (H x)) (he : e = x ∨ H e = some (.own x)) (k : ∀ b u, b ≠ e → h.get? b = some u → h'.get? b = some u) (heo : ∃ u, h'.get? e = some u) : Un fs ex H (upd H x o) h h' := by
  have hx : ∀ b, H b = none → b ≠ x := fun b n z => by subst z; rw [n] at mu; exact mu
  have hb : ∀ b, H b = none → b ≠ e := fun b n z => by
    subst z
    rcases he with r | r
    · exact hx b n r
    · rw [n] at r; cases r
  have hm : ∀ b u, H b = some u → ¬ Mut (some u) → b ≠ x := fun b u q nm z => by subst z; rw [q] at mu; exact nm mu
  refine ⟨fun b u q n _ _ => k b u (hb b n) q, fun b u q n _ _ => ⟨u.slots, k b u (hb b n) q⟩, fun b u q n _ => by rw [upd_ne (hx b n)]; exact n, fun b u q _ => ?_,
    fun b xs q => by rw [upd_ne (hm b _ q fun z => z)]; exact q, fun b u xs q => by rw [upd_ne (hm b _ q fun z => z)]; exact q, fun b ps q => ⟨#[], by rw [upd_ne (hm b _ q fun z => z), q]; simp⟩⟩
  by_cases hbe : b = e
  · subst hbe; exact heo
  · exact ⟨u, k b u hbe q⟩
theorem Un.mono (u : Un fs ex H H1 h h1) (hs : ∀ b ∈ fs, b ∈ fs') (hx : ∀ b ∈ ex, b ∈ ex') : Un fs' ex' H H1 h h1 :=
  ⟨fun b ob q n hb he => u.keep b ob q n (fun z => hb (hs b z)) fun z => he (hx b z), fun _ _ q n _ he => u.any q n fun z => he (hx _ z), fun b ob q n he => u.free b ob q n fun z => he (hx b z), fun b ob q he => u.there b ob q fun z => he (hx b z), u.tups, u.frzs, u.tbls⟩
end

/-! ### the heap without what is tracked -/
def trk (h : Heap) (H : Hp) : List Addr := (List.range h.objs.size).filter fun a => (H a).isSome
def hidT (h : Heap) (H : Hp) : Heap := PySem.W.hideAll h (trk h H)
theorem hidT_size (h : Heap) (H : Hp) : (hidT h H).objs.size = h.objs.size := PySem.W.hideAll_size _ _
theorem hidT_get {h : Heap} {H : Hp} {b : Addr} {o : Obj} (e : h.get? b = some o) (n : H b = none) : (hidT h H).get? b = some o :=
  PySem.W.hideAll_get _ e fun hm => by
    have q : (H b).isSome = true := (List.mem_filter.mp hm).2
    rw [n] at q; simp at q
theorem of_hidT {h : Heap} {H : Hp} {b : Addr} {o : Obj} (e : (hidT h H).get? b = some o) : h.get? b = some o ∧ H b = none := by
  have e' : h.get? b = some o := PySem.W.of_hideAll (trk h H) e
  refine ⟨e', ?_⟩
  cases q : H b with
  | none => rfl
  | some x =>
    have hm : b ∈ trk h H := List.mem_filter.mpr ⟨List.mem_range.mpr (Heap.lt_size e'), by simp [q]⟩
    have z : (hidT h H).get? b = none := PySem.W.hideAll_none (trk h H) hm
    rw [z] at e; cases e

/-! ### OpenK's ledger, filled with every new object but one -/
def allNews (g h : Heap) (L : Addr) : List (Addr × Obj) := (List.range h.objs.size).filterMap fun a => if a = L ∨ (g.get? a).isSome = true then none else (h.get? a).map fun o => (a, o)
def rest (g h : Heap) (L d : Addr) : List (Addr × Obj) := (allNews g h L).filter fun p => decide (p.1 ≠ d)
end L2

namespace L2
open PySem PySem.Spec PyProof.Rows

/-- the module's facts, over the base: the heap at the law's entry without what is tracked there -/
structure Mod (K : PySem.W.Frag) (mg : Str → Option Value) (base : Heap) : Prop where
  kin : K.In base
  glob : base.Ns mainGlobals mg
  blt : ∃ mb, base.Ns builtinsNs mb ∧ ∀ x : Str, x ≠ "__name__" → mb x = bootBuiltins x
  nolimit : base.NoLimit

/-- the context: a def's body (or a comprehension's block) running. base: fixed through the whole law; s₀, H₀: the entry; outer: the frames whose slots others may change (a def's callers); stack: all frames that run;
   ex: iterators that were made ahead of the entry and are walked here (a comprehension's); fn: the names whose cells were made at the entry (a def: all; a comprehension's block: its own); calm: not within an except suite; pn: pins that every state bears; xe: what is wanted of an exception that leaves the code -/
structure Cx where
  prog : Program
  w : World
  K : PySem.W.Frag
  mg : Str → Option Value
  base : Heap
  A : Around
  N : List Str
  s₀ : Shared
  H₀ : Hp
  env : Env
  outer : List Env
  stack : List Env
  ex : List Addr
  fn : Str → Bool
  calm : Bool
  pn : List (Addr × Obj)
  xe : Value → Shared → Prop
/-- the callers' frames -/
def frs (l : List Env) : List Addr := l.filterMap (·.frame)
abbrev Cx.fs (X : Cx) : List Addr := frs X.outer

def Vis (sc : Scope) (x : Str) : Prop := sc.names.lookup x = some .local ∨ sc.names.lookup x = some .cell ∨ sc.names.lookup x = some .free
def Loc (sc : Scope) (x : Str) : Prop := sc.names.lookup x = some .local ∨ sc.names.lookup x = some .cell
def Look (env : Env) (h : Heap) (m : Str → Option Value) (x : Str) (u : Value) : Prop :=
  (env.kindOf x = some .local ∧ m x = some u) ∨ ((env.kindOf x = some .cell ∨ env.kindOf x = some .free) ∧ ∃ c, env.cells.lookup x = some c ∧ h.IsCell c (some u))

structure Cx.Ok (X : Cx) : Prop where
  mod : Mod X.K X.mg X.base
  kind : X.env.scope.kind = .function
  glob : X.env.globals = mainGlobals
  blt : X.env.builtins = builtinsNs
  above : X.s₀.heap.objs.size ≤ X.env.locals
  inj : ∀ x y c, X.env.cells.lookup x = some c → X.env.cells.lookup y = some c → x = y
  has : ∀ x, (X.env.kindOf x = some .cell ∨ X.env.kindOf x = some .free) → ∃ c, X.env.cells.lookup x = some c
  cab : ∀ x c, X.fn x = true → X.env.cells.lookup x = some c → X.s₀.heap.objs.size ≤ c
  hd : X.calm = true → X.A.handled = none
  frames : X.A.frames = some X.stack
  stk : X.stack = X.outer ∨ (X.stack = X.env :: X.outer ∧ X.env.frame = some X.env.locals)
  exf : ∀ b ∈ X.ex, b ≠ X.env.locals ∧ ∀ x c, X.env.cells.lookup x = some c → c ≠ b
  bs : ∀ b o, X.base.get? b = some o → X.s₀.heap.get? b = some o ∧ X.H₀ b = none
  bsz : X.base.objs.size ≤ X.s₀.heap.objs.size
  noex : ∀ b o, X.base.get? b = some o → b ∉ X.ex
  exfs : ∀ b ∈ X.ex, b ∉ X.fs
  funs : X.s₀.heap.FunFrames X.base X.outer
  frf : ∀ b ∈ X.fs, X.H₀ b = none

structure Inv (X : Cx) (pins : List (Addr × Obj)) (σ : List (Option V)) (H : Hp) (s : Shared) : Prop where
  ok : X.Ok
  os : s.os = X.s₀.os
  bare : AllBare s.gens
  base : Un X.fs X.ex X.H₀ H X.s₀.heap s.heap
  loc : ∃ m, s.heap.Ns X.env.locals m ∧ ∀ (i : Nat) (x : Str) (v : V), X.N[i]? = some x → σ[i]? = some (some v) → Vis X.env.scope x → ∃ u, RelV v u ∧ Look X.env s.heap m x u
  cell : ∀ x c, X.env.cells.lookup x = some c → ∃ v, s.heap.IsCell c v
  free : H X.env.locals = none
  freeC : ∀ x c, X.env.cells.lookup x = some c → H c = none
  pin : ∀ p ∈ X.pn ++ pins, s.heap.get? p.1 = some p.2 ∧ H p.1 = none ∧ p.1 ≠ X.env.locals ∧ p.1 ∉ X.fs ∧ ∀ v, p.2.data ≠ .cell v
  hok : HOk X.prog X.w H s.heap
  len : σ.length = X.N.length

section
variable {X : Cx} {pins : List (Addr × Obj)} {σ : List (Option V)} {H H' : Hp} {s : Shared} {h' : Heap}

theorem Cx.Ok.nofr (ok : X.Ok) {b : Addr} {o : Obj} (e : X.base.get? b = some o) : b ∉ X.fs := fun hb => by
  have := (ok.funs.mem hb).1
  rw [e] at this; cases this
theorem Inv.bs (I : Inv X pins σ H s) : ∀ b o, X.base.get? b = some o → s.heap.get? b = some o ∧ H b = none := fun b o e =>
  ⟨I.base.keep b o (I.ok.bs b o e).1 (I.ok.bs b o e).2 (I.ok.nofr e) (I.ok.noex b o e), I.base.free b o (I.ok.bs b o e).1 (I.ok.bs b o e).2 (I.ok.noex b o e)⟩
theorem Inv.bk (I : Inv X pins σ H s) : ∀ b o, X.base.get? b = some o → s.heap.get? b = some o := fun b o e => (I.bs b o e).1
theorem Inv.mod (I : Inv X pins σ H s) : Mod X.K X.mg X.base := I.ok.mod
theorem Inv.kIn (I : Inv X pins σ H s) : X.K.In s.heap := I.ok.mod.kin.keeps I.bk
theorem Inv.nolimit (I : Inv X pins σ H s) : s.heap.NoLimit := I.ok.mod.nolimit.keeps I.bk
/-- the frame over the base: for OpenK's rules (K.In X.base is I.mod.kin) -/
theorem Inv.fr (I : Inv X pins σ H s) : ∃ m, Fr X.base X.env.locals s.heap m :=
  let ⟨m, hn, _⟩ := I.loc
  ⟨m, hn, I.bk, Nat.le_trans I.ok.bsz I.ok.above⟩
theorem Inv.lt (I : Inv X pins σ H s) : X.env.locals < s.heap.objs.size := let ⟨_, hn, _⟩ := I.loc; hn.lt
theorem Inv.sz (I : Inv X pins σ H s) : X.s₀.heap.objs.size ≤ s.heap.objs.size := Nat.le_trans I.ok.above (Nat.le_of_lt I.lt)
theorem Inv.nofs (I : Inv X pins σ H s) {a : Addr} (h : s.heap.objs.size ≤ a) : a ∉ X.fs := fun hb => by
  obtain ⟨_, o, ho, _⟩ := I.ok.funs.mem hb
  exact absurd (Nat.lt_of_lt_of_le (Heap.lt_size ho) (Nat.le_trans I.sz h)) (Nat.lt_irrefl _)
theorem Inv.cne (I : Inv X pins σ H s) : ∀ x c, X.env.cells.lookup x = some c → c ≠ X.env.locals := fun x c e z => by
  obtain ⟨v, o, ho, hd⟩ := I.cell x c e
  obtain ⟨m, ⟨o', es, ep, ho', hd', _⟩, _⟩ := I.loc
  rw [z, ho'] at ho; cases ho; rw [hd'] at hd; cases hd
theorem Inv.funs (I : Inv X pins σ H s) : s.heap.FunFrames X.base X.outer := by
  have all : ∀ (l : List Env), (∀ b ∈ frs l, b ∈ X.fs) → X.s₀.heap.FunFrames X.base l → s.heap.FunFrames X.base l := by
    intro l
    induction l with
    | nil => intro _ _; trivial
    | cons env r ih =>
      intro hs hl
      obtain ⟨hk, ⟨L, o, hf, hn, ho, hd⟩, hr⟩ := hl
      have hL : L ∈ X.fs := hs L (by unfold frs; rw [List.filterMap_cons, hf]; exact List.mem_cons_self)
      obtain ⟨sl, e⟩ := I.base.slot L o ho (I.ok.frf L hL) hL fun z => I.ok.exfs L z hL
      exact ⟨hk, ⟨L, _, hf, hn, e, hd⟩, ih (fun b hb => hs b (by unfold frs; rw [List.filterMap_cons, hf]; exact List.mem_cons_of_mem _ hb)) hr⟩
  exact all X.outer (fun _ hb => hb) I.ok.funs

/-- the frames that run, for a call -/
theorem Inv.stack (I : Inv X pins σ H s) : s.heap.FunFrames X.base X.stack := by
  rcases I.ok.stk with e | ⟨e, hf⟩
  · rw [e]; exact I.funs
  · rw [e]
    obtain ⟨m, hn, _⟩ := I.loc
    refine .cons (by rw [I.ok.kind]; decide) hf hn ?_ I.funs
    exact Heap.get?_none_of_le (Nat.le_trans I.ok.bsz I.ok.above)
theorem Inv.stkSub (I : Inv X pins σ H s) : ∀ b ∈ frs X.stack, b ∈ X.env.locals :: X.fs := fun b hb => by
  rcases I.ok.stk with e | ⟨e, hf⟩
  · rw [e] at hb; exact List.mem_cons_of_mem _ hb
  · rw [e] at hb
    unfold frs at hb
    rw [List.filterMap_cons, hf] at hb
    exact hb
theorem Inv.stkFree (I : Inv X pins σ H s) : ∀ b ∈ frs X.stack, H b = none := fun b hb => by
  rcases List.mem_cons.mp (I.stkSub b hb) with e | hb
  · rw [e]; exact I.free
  · obtain ⟨_, o, ho, _⟩ := I.ok.funs.mem hb
    exact I.base.free b o ho (I.ok.frf b hb) fun z => I.ok.exfs b z hb

/-- THE STEP: the untracked objects but the frame and the records at ch are kept (the callers' frames up to slots), the frame's map is kept, the new abstract heap is held -/
theorem Inv.step {g' : Array GenState} {t' : Nat} {d' : Drawn} {ch : List Addr} (I : Inv X pins σ H s)
    (hch : ∀ b ∈ ch, (b ∈ X.ex ∨ X.s₀.heap.objs.size ≤ b) ∧ b ≠ X.env.locals ∧ (∀ x c, X.env.cells.lookup x = some c → c ≠ b) ∧ ∀ p ∈ X.pn ++ pins, p.1 ≠ b)
    (keep : ∀ b o, b ≠ X.env.locals → b ∉ X.fs → b ∉ ch → s.heap.get? b = some o → H b = none → h'.get? b = some o)
    (slot : ∀ b o, b ≠ X.env.locals → b ∈ X.fs → b ∉ ch → s.heap.get? b = some o → H b = none → ∃ sl, h'.get? b = some { o with slots := sl }) (free : ∀ b o, b ∉ ch → s.heap.get? b = some o → H b = none → H' b = none)
    (there : ∀ b o, b ∉ ch → s.heap.get? b = some o → ∃ o', h'.get? b = some o')
    (tups : ∀ b xs, H b = some (.tup xs) → H' b = some (.tup xs)) (frzs : ∀ b o u, H b = some (.frz o u) → H' b = some (.frz o u)) (tbls : ∀ b ps, H b = some (.tbl ps) → ∃ more, H' b = some (.tbl (ps ++ more)))
    (ns : ∀ m, s.heap.Ns X.env.locals m → h'.Ns X.env.locals m) (hok : HOk X.prog X.w H' h') (hg : AllBare g') :
    Inv X pins σ H' { s with heap := h', gens := g', drawn := d', toks := t' } := by
  have neL : ∀ b o, X.s₀.heap.get? b = some o → b ≠ X.env.locals := fun b o e => Nat.ne_of_lt (Nat.lt_of_lt_of_le (Heap.lt_size e) I.ok.above)
  have neC : ∀ b o, X.s₀.heap.get? b = some o → b ∉ X.ex → b ∉ ch := fun b o e hx hb => by
    rcases (hch b hb).1 with z | z
    · exact hx z
    · exact absurd (Nat.lt_of_lt_of_le (Heap.lt_size e) z) (Nat.lt_irrefl _)
  have cellK : ∀ x c, X.env.cells.lookup x = some c → ∀ v, s.heap.IsCell c v → h'.IsCell c v := fun x c e v ⟨o, ho, hd⟩ => by
    have nch : c ∉ ch := fun z => (hch c z).2.2.1 x c e rfl
    by_cases hc : c ∈ X.fs
    · obtain ⟨sl, q⟩ := slot c o (I.cne x c e) hc nch ho (I.freeC x c e)
      exact ⟨_, q, hd⟩
    · exact ⟨o, keep c o (I.cne x c e) hc nch ho (I.freeC x c e), hd⟩
  refine ⟨I.ok, I.os, hg, ⟨fun b o e n hb hx => ?_, fun b o e n hb hx => ?_, fun b o e n hx => ?_, fun b o e hx => ?_, fun b xs e => tups b xs (I.base.tups b xs e), fun b o xs e => frzs b o xs (I.base.frzs b o xs e), fun b ps e => ?_⟩, ?_, fun x c e => ?_, ?_, fun x c e => ?_, fun p hp => ?_, hok, I.len⟩
  · exact keep b o (neL b o e) hb (neC b o e hx) (I.base.keep b o e n hb hx) (I.base.free b o e n hx)
  · obtain ⟨sl, e1⟩ := I.base.slot b o e n hb hx
    obtain ⟨sl', e2⟩ := slot b _ (neL b o e) hb (neC b o e hx) e1 (I.base.free b o e n hx)
    exact ⟨sl', e2⟩
  · obtain ⟨o', e1⟩ := I.base.there b o e hx
    exact free b o' (neC b o e hx) e1 (I.base.free b o e n hx)
  · obtain ⟨o', e1⟩ := I.base.there b o e hx
    exact there b o' (neC b o e hx) e1
  · obtain ⟨m1, e1⟩ := I.base.tbls b ps e
    obtain ⟨m2, e2⟩ := tbls b _ e1
    exact ⟨m1 ++ m2, by rw [e2, Array.append_assoc]⟩
  · obtain ⟨m, hn, hl⟩ := I.loc
    refine ⟨m, ns m hn, fun i x v e1 e2 e3 => ?_⟩
    obtain ⟨u, r, l⟩ := hl i x v e1 e2 e3
    refine ⟨u, r, ?_⟩
    rcases l with l | ⟨k, c, e, z⟩
    · exact .inl l
    · exact .inr ⟨k, c, e, cellK x c e _ z⟩
  · obtain ⟨v, z⟩ := I.cell x c e
    exact ⟨v, cellK x c e v z⟩
  · obtain ⟨m, ⟨o, _, _, ho, _⟩, _⟩ := I.loc
    exact free _ o (fun z => (hch _ z).2.1 rfl) ho I.free
  · obtain ⟨v, o, ho, hd⟩ := I.cell x c e
    exact free c o (fun z => (hch c z).2.2.1 x c e rfl) ho (I.freeC x c e)
  · obtain ⟨e, n, ne, nf, d⟩ := I.pin p hp
    have nch : p.1 ∉ ch := fun z => (hch p.1 z).2.2.2 p hp rfl
    exact ⟨keep p.1 p.2 ne nf nch e n, free p.1 p.2 nch e n, ne, nf, d⟩
/-- .. where the frame's own object is kept too -/
theorem Inv.un {t' : Nat} (I : Inv X pins σ H s) (u : Un X.fs [] H H' s.heap h') (hok : HOk X.prog X.w H' h') : Inv X pins σ H' { s with heap := h', toks := t' } := by
  obtain ⟨m, ⟨o, es, ep, ho, r⟩, _⟩ := id I.loc
  obtain ⟨sl, hL⟩ := u.any ho I.free (by simp)
  exact I.step (g' := s.gens) (d' := s.drawn) (ch := []) (fun _ z => nomatch z) (fun b o _ hb _ e n => u.keep b o e n hb (by simp)) (fun b o _ hb _ e n => u.slot b o e n hb (by simp)) (fun b o _ e n => u.free b o e n (by simp)) (fun b o _ e => u.there b o e (by simp)) u.tups u.frzs u.tbls (fun m' hm => by
    obtain ⟨o', es', ep', ho', r'⟩ := hm
    rw [ho] at ho'; cases ho'
    exact ⟨_, es', ep', hL, r'⟩) hok I.bare
/-- behind a call (or a comprehension's block): the slots of this frame may have changed too, the records at ch may have turned -/
theorem Inv.call {g' : Array GenState} {t' : Nat} {d' : Drawn} {ch : List Addr} (I : Inv X pins σ H s) (u : Un (frs X.stack) ch H H' s.heap h') (hok : HOk X.prog X.w H' h') (hg : AllBare g')
    (hch : ∀ b ∈ ch, (b ∈ X.ex ∨ X.s₀.heap.objs.size ≤ b) ∧ b ≠ X.env.locals ∧ (∀ x c, X.env.cells.lookup x = some c → c ≠ b) ∧ ∀ p ∈ X.pn ++ pins, p.1 ≠ b) :
    Inv X pins σ H' { s with heap := h', gens := g', drawn := d', toks := t' } := by
  obtain ⟨m, ⟨o, es, ep, ho, r⟩, _⟩ := id I.loc
  obtain ⟨sl, hL⟩ := u.any ho I.free fun z => (hch _ z).2.1 rfl
  exact I.step (ch := ch) hch (fun b o hL hb hc e n => u.keep b o e n (fun z => (List.mem_cons.mp (I.stkSub b z)).elim hL hb) hc) (fun b o _ _ hc e n => u.any e n hc) (fun b o hc e n => u.free b o e n hc) (fun b o hc e => u.there b o e hc) u.tups u.frzs u.tbls (fun m' hm => by
    obtain ⟨o', es', ep', ho', r'⟩ := hm
    rw [ho] at ho'; cases ho'
    exact ⟨_, es', ep', hL, r'⟩) hok hg
/-- an untracked record of ours (an iterator) has turned -/
theorem Inv.turned {t' : Nat} {it : Addr} (I : Inv X pins σ H s) (k : ∀ b o, b ≠ it → s.heap.get? b = some o → h'.get? b = some o) (hn : H it = none) (hL : it ≠ X.env.locals)
    (h1 : it ∈ X.ex ∨ X.s₀.heap.objs.size ≤ it) (h2 : ∀ x c, X.env.cells.lookup x = some c → c ≠ it) (h3 : ∀ p ∈ X.pn ++ pins, p.1 ≠ it) : Inv X pins σ H { s with heap := h', toks := t' } := by
  have nit : ∀ b u, H b = some u → b ≠ it := fun b u e z => by rw [z, hn] at e; cases e
  refine I.step (g' := s.gens) (d' := s.drawn) (ch := [it]) (fun b hb => ?_) (fun b o _ _ hc e _ => k b o (fun z => hc (by simp [z])) e) (fun b o _ _ hc e _ => ⟨o.slots, k b o (fun z => hc (by simp [z])) e⟩) (fun _ _ _ _ n => n)
    (fun b o hc e => ⟨o, k b o (fun z => hc (by simp [z])) e⟩) (fun _ _ e => e) (fun _ _ _ e => e) (fun b ps e => ⟨#[], by rw [e]; simp⟩) (fun m hm => ?_) (fun b u e => ?_) I.bare
  · have e : b = it := by simpa using hb
    subst e
    exact ⟨h1, hL, h2, h3⟩
  · obtain ⟨o, es, ep, ho, r⟩ := hm
    exact ⟨o, es, ep, k _ o (Ne.symm hL) ho, r⟩
  · refine (I.hok b u e).stay (fun c v hc q => k c v ?_ q) (fun _ q => q) fun _ _ q => q
    rcases hc with z | z
    · rw [z]; exact nit b u e
    · exact nit c _ z
theorem Inv.tok (I : Inv X pins σ H s) (t : Nat) : Inv X pins σ H { s with toks := t } := I.un (h' := s.heap) (t' := t) Un.refl I.hok
/-- all objects kept -/
theorem Inv.kept {t' : Nat} (I : Inv X pins σ H s) (k : ∀ b u, s.heap.get? b = some u → h'.get? b = some u) : Inv X pins σ H { s with heap := h', toks := t' } := I.un (Un.kept k) (I.hok.kept k)
/-- a new object laid and tracked -/
theorem Inv.laid {a : Addr} {o : HO} {t' : Nat} (I : Inv X pins σ H s) (k : ∀ b u, s.heap.get? b = some u → h'.get? b = some u) (hp : s.heap.objs.size ≤ a) (new : ObjOk X.prog X.w (upd H a o) h' a o) :
    Inv X pins σ (upd H a o) { s with heap := h', toks := t' } := I.un (Un.laid k hp (I.hok.fresh hp)) (I.hok.laid k hp new)
/-- an object written -/
theorem Inv.write {x e : Addr} {o : HO} {t' : Nat} (I : Inv X pins σ H s) (mu : Mut (H x)) (he : e = x ∨ H e = some (.own x)) (k : ∀ b u, b ≠ e → s.heap.get? b = some u → h'.get? b = some u) (heo : ∃ u, h'.get? e = some u)
    (new : ObjOk X.prog X.w (upd H x o) h' x o) : Inv X pins σ (upd H x o) { s with heap := h', toks := t' } := I.un (Un.write mu he k heo) (I.hok.write mu he k heo new)
theorem Inv.pins_of {pins' : List (Addr × Obj)} (I : Inv X pins σ H s) (h : ∀ p ∈ pins', s.heap.get? p.1 = some p.2 ∧ H p.1 = none ∧ p.1 ≠ X.env.locals ∧ p.1 ∉ X.fs ∧ ∀ v, p.2.data ≠ .cell v) : Inv X pins' σ H s :=
  ⟨I.ok, I.os, I.bare, I.base, I.loc, I.cell, I.free, I.freeC, fun p hp => (List.mem_append.mp hp).elim (fun z => I.pin p (List.mem_append_left _ z)) (h p), I.hok, I.len⟩

theorem nodup_ix {N : List Str} (hN : N.Nodup) {i j : Nat} {x : Str} (a : N[i]? = some x) (b : N[j]? = some x) : i = j := by
  obtain ⟨h1, e1⟩ := List.getElem?_eq_some_iff.mp a
  obtain ⟨h2, e2⟩ := List.getElem?_eq_some_iff.mp b
  exact (List.getElem_inj hN).mp (e1.trans e2.symm)

/-- a name is stored; what changed -/
theorem store_ok2 {M : Model} {A : Around} {E : Value → Shared → Prop} {i : Nat} {x : Str} {v : V} {u : Value} {Q : Unit → Shared → Prop} (I : Inv X pins σ H s) (hN : X.N.Nodup) (hi : X.N[i]? = some x) (hx : Loc X.env.scope x) (r : RelV v u)
    (h : ∀ s', Inv X pins (σ.set i (some v)) H s' → (∃ a, Heap.SameBut a s.heap s'.heap ∧ (a = X.env.locals ∨ X.env.cells.lookup x = some a)) → Q () s') (hf : X.fn x = true ∨ X.env.scope.names.lookup x = some .local := by first | exact .inl rfl | exact .inr rfl | assumption) : wpAny M A (storeName X.env x u) Q E s := by
  obtain ⟨m, hn, hl⟩ := id I.loc
  have hcls : (X.env.scope.kind == .class || (X.env.scope.kind == .module && X.env.locals != X.env.globals)) = false := by rw [I.ok.kind]; rfl
  have hiσ : i < σ.length := by rw [I.len]; exact (List.getElem?_eq_some_iff.mp hi).1
  have cne := I.cne
  have tracked : ∀ {a : Addr} {h' : Heap}, (∃ o, s.heap.get? a = some o ∧ H a = none) → Heap.SameBut a s.heap h' → HOk X.prog X.w H h' := fun {a h'} ha hs b ob e => by
    obtain ⟨_, _, hfree⟩ := ha
    refine (I.hok b ob e).stay (fun c w' hc q => (hs.2 c ?_).trans q) (fun _ q => q) fun _ _ q => q
    rintro rfl
    rcases hc with rfl | hc
    · rw [hfree] at e; cases e
    · rw [hfree] at hc; cases hc
  rcases hx with hk | hk
  · refine wpAny_storeName_local hk hn (fun h' hn' hs => ?_) hcls
    obtain ⟨oL, _, _, hoL, _⟩ := id hn
    refine h _ ⟨I.ok, I.os, I.bare, ⟨fun b o e n hb hx => ?_, fun b o e n hb hx => ?_, I.base.free, fun b o e hx => ?_, I.base.tups, I.base.frzs, I.base.tbls⟩, ⟨_, hn', fun j y v' e1 e2 e3 => ?_⟩, fun y c e => ?_, I.free, I.freeC, fun p hp => ?_, tracked ⟨oL, hoL, I.free⟩ hs, by simpa using I.len⟩ ⟨_, hs, .inl rfl⟩
    · exact (hs.2 b (Nat.ne_of_lt (Nat.lt_of_lt_of_le (Heap.lt_size e) I.ok.above))).trans (I.base.keep b o e n hb hx)
    · obtain ⟨sl, e1⟩ := I.base.slot b o e n hb hx
      exact ⟨sl, (hs.2 b (Nat.ne_of_lt (Nat.lt_of_lt_of_le (Heap.lt_size e) I.ok.above))).trans e1⟩
    · obtain ⟨o', e1⟩ := I.base.there b o e hx
      exact ⟨o', (hs.2 b (Nat.ne_of_lt (Nat.lt_of_lt_of_le (Heap.lt_size e) I.ok.above))).trans e1⟩
    · by_cases hj : j = i
      · subst hj
        rw [hi] at e1; cases e1
        rw [List.getElem?_set_self hiσ] at e2
        cases e2
        exact ⟨u, r, .inl ⟨hk, by simp⟩⟩
      · rw [List.getElem?_set_ne (Ne.symm hj)] at e2
        obtain ⟨u', r', q⟩ := hl j y v' e1 e2 e3
        refine ⟨u', r', ?_⟩
        rcases q with ⟨k, e⟩ | ⟨k, c, e, z⟩
        · refine .inl ⟨k, ?_⟩
          have : y ≠ x := fun e => hj (nodup_ix hN e1 (e ▸ hi))
          simp [this, e]
        · exact .inr ⟨k, c, e, z.sameBut hs (cne y c e)⟩
    · obtain ⟨w', z⟩ := I.cell y c e
      exact ⟨w', z.sameBut hs (cne y c e)⟩
    · obtain ⟨e, n, ne, nf, d⟩ := I.pin p hp
      exact ⟨(hs.2 p.1 ne).trans e, n, ne, nf, d⟩
  · have hfn : X.fn x = true := by
      rcases hf with z | z
      · exact z
      · rw [z] at hk; cases hk
    obtain ⟨c, hc⟩ := I.ok.has x (.inl hk)
    obtain ⟨w', z⟩ := I.cell x c hc
    refine wpAny_storeName_cell I.ok.kind hk hc z (fun h' hc' hs => ?_)
    obtain ⟨oc, hoc, hocd⟩ := id z
    refine h { s with heap := h' } ⟨I.ok, I.os, I.bare, ⟨fun b o e n hb hx => ?_, fun b o e n hb hx => ?_, I.base.free, fun b o e hx => ?_, I.base.tups, I.base.frzs, I.base.tbls⟩, ⟨m, hn.sameBut hs (Ne.symm (cne x c hc)), fun j y v' e1 e2 e3 => ?_⟩, fun y c' e => ?_, I.free, I.freeC, fun p hp => ?_, tracked ⟨oc, hoc, I.freeC x c hc⟩ hs, by simpa using I.len⟩ ⟨c, hs, .inr hc⟩
    · exact (hs.2 b (Nat.ne_of_lt (Nat.lt_of_lt_of_le (Heap.lt_size e) (I.ok.cab x c hfn hc)))).trans (I.base.keep b o e n hb hx)
    · obtain ⟨sl, e1⟩ := I.base.slot b o e n hb hx
      exact ⟨sl, (hs.2 b (Nat.ne_of_lt (Nat.lt_of_lt_of_le (Heap.lt_size e) (I.ok.cab x c hfn hc)))).trans e1⟩
    · obtain ⟨o', e1⟩ := I.base.there b o e hx
      exact ⟨o', (hs.2 b (Nat.ne_of_lt (Nat.lt_of_lt_of_le (Heap.lt_size e) (I.ok.cab x c hfn hc)))).trans e1⟩
    · by_cases hj : j = i
      · subst hj
        rw [hi] at e1; cases e1
        rw [List.getElem?_set_self hiσ] at e2
        cases e2
        exact ⟨u, r, .inr ⟨.inl hk, c, hc, hc'⟩⟩
      · rw [List.getElem?_set_ne (Ne.symm hj)] at e2
        obtain ⟨u', r', q⟩ := hl j y v' e1 e2 e3
        refine ⟨u', r', ?_⟩
        rcases q with q | ⟨k, c', e, z'⟩
        · exact .inl q
        · refine .inr ⟨k, c', e, z'.sameBut hs ?_⟩
          rintro rfl
          exact hj (nodup_ix hN e1 (I.ok.inj _ _ _ e hc ▸ hi))
    · by_cases hcc : c' = c
      · subst hcc; exact ⟨_, hc'⟩
      · obtain ⟨w2, z2⟩ := I.cell y c' e
        exact ⟨w2, z2.sameBut hs hcc⟩
    · obtain ⟨e, n, ne, nf, d⟩ := I.pin p hp
      refine ⟨(hs.2 p.1 ?_).trans e, n, ne, nf, d⟩
      intro q
      rw [q, hoc] at e
      have q' : oc = p.2 := Option.some.inj e
      exact d w' (by rw [← q']; exact hocd)
theorem store_ok {M : Model} {A : Around} {E : Value → Shared → Prop} {i : Nat} {x : Str} {v : V} {u : Value} {Q : Unit → Shared → Prop} (I : Inv X pins σ H s) (hN : X.N.Nodup) (hi : X.N[i]? = some x) (hx : Loc X.env.scope x) (r : RelV v u)
    (h : ∀ s', Inv X pins (σ.set i (some v)) H s' → Q () s') (hf : X.fn x = true ∨ X.env.scope.names.lookup x = some .local := by first | exact .inl rfl | exact .inr rfl | assumption) : wpAny M A (storeName X.env x u) Q E s :=
  store_ok2 I hN hi hx r (fun s' I' _ => h s' I') hf
/-- behind a call or a block, the state as it is -/
theorem Inv.call' {s' : Shared} {ch : List Addr} (I : Inv X pins σ H s) (ho : s'.os = s.os) (u : Un (frs X.stack) ch H H' s.heap s'.heap) (hok : HOk X.prog X.w H' s'.heap) (hg : AllBare s'.gens)
    (hch : ∀ b ∈ ch, (b ∈ X.ex ∨ X.s₀.heap.objs.size ≤ b) ∧ b ≠ X.env.locals ∧ (∀ x c, X.env.cells.lookup x = some c → c ≠ b) ∧ ∀ p ∈ X.pn ++ pins, p.1 ≠ b) : Inv X pins σ H' s' := by
  obtain ⟨h', g', d', t', o'⟩ := s'
  have e : o' = s.os := ho
  subst e
  exact I.call (g' := g') (t' := t') (d' := d') u hok hg hch
end

/-! ### the judgements -/
/-- an exception: its class, its own dict's address (where it has one), the abstract heap behind it -/
abbrev XK := Value → Option Addr → Hp → Prop
abbrev St := List (Option V)
abbrev VK := V → Hp → Prop
/-- an expression's reading; a test's; an argument list's -/
abbrev TE := St → Hp → VK → Prop
abbrev TT := St → Hp → (Bool → Hp → Prop) → Prop
abbrev TA := St → Hp → (List V → Hp → Prop) → Prop
/-- what is wanted behind a statement -/
structure Ends where
  nx : St → Hp → Prop
  rt : VK
  bk : St → Hp → Prop := fun _ _ => False
  ct : St → Hp → Prop := fun _ _ => False
abbrev TS := Ends → St → Hp → Prop

def EP (X : Cx) (pins : List (Addr × Obj)) (σ : St) (Q : VK) (u : Value) (s' : Shared) : Prop := ∃ v H', Inv X pins σ H' s' ∧ RelV v u ∧ Q v H'
def TP (X : Cx) (pins : List (Addr × Obj)) (σ : St) (Q : Bool → Hp → Prop) (b : Bool) (s' : Shared) : Prop := ∃ H', Inv X pins σ H' s' ∧ Q b H'
def AP (X : Cx) (pins : List (Addr × Obj)) (σ : St) (Q : List V → Hp → Prop) (us : List Value) (s' : Shared) : Prop := ∃ vs H', Inv X pins σ H' s' ∧ Vals vs us ∧ Q vs H'
def SP (X : Cx) (pins : List (Addr × Obj)) (D : Ends) (f : Flow) (s' : Shared) : Prop :=
  match f with
  | .next => ∃ σ' H', Inv X pins σ' H' s' ∧ D.nx σ' H'
  | .brk => ∃ σ' H', Inv X pins σ' H' s' ∧ D.bk σ' H'
  | .cont => ∃ σ' H', Inv X pins σ' H' s' ∧ D.ct σ' H'
  | .ret u => ∃ v σ' H', Inv X pins σ' H' s' ∧ RelV v u ∧ D.rt v H'

def PE (X : Cx) (e : Expr) (t : TE) : Prop :=
  ∀ (pins : List (Addr × Obj)) (s : Shared) (σ : St) (H : Hp) (Q : VK), Inv X pins σ H s → t σ H Q → wpAny (model X.prog X.w) X.A (eval e X.env) (EP X pins σ Q) X.xe s
def PT (X : Cx) (e : Expr) (t : TT) : Prop :=
  ∀ (pins : List (Addr × Obj)) (s : Shared) (σ : St) (H : Hp) (Q : Bool → Hp → Prop), Inv X pins σ H s → t σ H Q → wpAny (model X.prog X.w) X.A (isTrue e X.env (eval e X.env)) (TP X pins σ Q) X.xe s
/-- a test whatever its 'whole' is (and, or) -/
def PW (X : Cx) (e : Expr) (t : TT) : Prop :=
  ∀ (whole : Sem Value) (pins : List (Addr × Obj)) (s : Shared) (σ : St) (H : Hp) (Q : Bool → Hp → Prop), Inv X pins σ H s → t σ H Q → wpAny (model X.prog X.w) X.A (isTrue e X.env whole) (TP X pins σ Q) X.xe s
theorem PW.pt {X : Cx} {e : Expr} {t : TT} (h : PW X e t) : PT X e t := h _
/-- an argument list (no star), from the left -/
def PA (X : Cx) (es : List Expr) (t : TA) : Prop :=
  ∀ (pos : Pos) (pins : List (Addr × Obj)) (s : Shared) (σ : St) (H : Hp) (Q : List V → Hp → Prop), Inv X pins σ H s → t σ H Q → wpAny (model X.prog X.w) X.A (spliced (backTo pos (starEach es X.env))) (AP X pins σ Q) X.xe s
def PS (X : Cx) (st : Stmt) (t : TS) : Prop :=
  ∀ (pins : List (Addr × Obj)) (s : Shared) (σ : St) (H : Hp) (D : Ends), Inv X pins σ H s → t D σ H → wpAny (model X.prog X.w) X.A (exec st X.env) (SP X pins D) X.xe s
def PSs (X : Cx) (st : List Stmt) (t : TS) : Prop :=
  ∀ (pins : List (Addr × Obj)) (s : Shared) (σ : St) (H : Hp) (D : Ends), Inv X pins σ H s → t D σ H → wpAny (model X.prog X.w) X.A (execs st X.env) (SP X pins D) X.xe s
/-- weaken the end -/
theorem thn {α : Type} {t : Sem α} {Q Q' : α → Shared → Prop} {M : Model} {A : Around} {E : Value → Shared → Prop} {s : Shared} (h : wpAny M A t Q E s) (hQ : ∀ a s, Q a s → Q' a s) : wpAny M A t Q' E s := wpAny_mono h hQ fun _ _ x => x
end L2

namespace L2
open PySem PySem.Spec PyProof.Rows
section
variable {X : Cx}

/-! ### names and constants -/
def tVar (i : Nat) : TE := fun σ H Q => ∃ v, σ[i]? = some (some v) ∧ Q v H
def tC (v : V) : TE := fun _ H Q => Q v H
theorem pe_var {i : Nat} {x : Str} {pos : Pos} (hN : X.N[i]? = some x) (hv : Vis X.env.scope x) (hd : (x == ("__debug__" : Str)) = false := by decide) (hcd : (x == ("__classdict__" : Str)) = false := by decide) : PE X (.Name x pos) (tVar i) := by
  intro pins s σ H Q I h
  obtain ⟨v, e, h⟩ := h
  obtain ⟨m, hn, hl⟩ := I.loc
  obtain ⟨u, r, l⟩ := hl i x v hN e hv
  have fin : EP X pins σ Q u s := ⟨v, H, I, r, h⟩
  rcases l with ⟨hk, hm⟩ | ⟨hk, c, hc, hcell⟩
  · exact wpAny_Name (wpAny_loadName_local I.ok.kind hk hn hm fin) hd
  · rcases hk with hk | hk
    · exact wpAny_Name (wpAny_loadName_cell I.ok.kind hk hc hcell fin) hd
    · exact wpAny_Name (wpAny_loadName_free I.ok.kind hk hc hcell fin hcd) hd
theorem pe_int {i j pos} : PE X (.Constant (.int i) j pos) (tC (.int i)) := fun _ _ _ H _ I h => wpAny_Constant_int ⟨.int i, H, I.tok _, ⟨_, rfl⟩, h⟩
theorem pe_bl {b j pos} : PE X (.Constant (.bool b) j pos) (tC (.bl b)) := fun _ _ _ H _ I h => Constant_bool ⟨.bl b, H, I, rfl, h⟩
theorem pe_str {x j pos} : PE X (.Constant (.str x) j pos) (tC (.str x)) := fun _ _ _ H _ I h => Calls.Constant_str ⟨.str x, H, I.tok _, ⟨_, rfl⟩, h⟩

/-- a global name of the def -/
def Gl (X : Cx) (x : Str) : Prop := X.env.kindOf x = some .globalImplicit
theorem ld_glob {E : Value → Shared → Prop} {pins : List (Addr × Obj)} {s : Shared} {σ : St} {H : Hp} {x : Str} {u : Value} {pos : Pos} {Q : Value → Shared → Prop} (I : Inv X pins σ H s) (hg : Gl X x) (hm : X.mg x = some u) (h : Q u s)
    (hd : (x == ("__debug__" : Str)) = false := by decide) : wpAny (model X.prog X.w) X.A (eval (.Name x pos) X.env) Q E s :=
  Calls.Name_function_global I.ok.kind hg (Calls.loadGlobal_global (by rw [I.ok.glob]; exact I.mod.glob.keeps I.bk) hm h) hd
theorem ld_blt {E : Value → Shared → Prop} {pins : List (Addr × Obj)} {s : Shared} {σ : St} {H : Hp} {x : Str} {u : Value} {pos : Pos} {Q : Value → Shared → Prop} (I : Inv X pins σ H s) (hg : Gl X x) (hm : X.mg x = none) (hv : bootBuiltins x = some u) (h : Q u s)
    (hn : x ≠ "__name__" := by decide) (hd : (x == ("__debug__" : Str)) = false := by decide) : wpAny (model X.prog X.w) X.A (eval (.Name x pos) X.env) Q E s := by
  obtain ⟨mb, h1, h2⟩ := I.mod.blt
  exact Calls.Name_function_global I.ok.kind hg (Calls.loadGlobal_builtin (by rw [I.ok.glob]; exact I.mod.glob.keeps I.bk) hm (by rw [I.ok.blt]; exact h1.keeps I.bk) ((h2 x hn).trans hv) h) hd
/-- a module's constant, a class, a function, as a value -/
theorem pe_glob {x : Str} {v : V} {u : Value} {pos : Pos} (hg : Gl X x) (hm : X.mg x = some u) (r : RelV v u) (hd : (x == ("__debug__" : Str)) = false := by decide) : PE X (.Name x pos) (tC v) :=
  fun _ _ _ H _ I h => ld_glob I hg hm ⟨v, H, I, r, h⟩ hd
theorem pe_bltn {x : Str} {v : V} {u : Value} {pos : Pos} (hg : Gl X x) (hm : X.mg x = none) (hv : bootBuiltins x = some u) (r : RelV v u) (hn : x ≠ "__name__" := by decide) (hd : (x == ("__debug__" : Str)) = false := by decide) : PE X (.Name x pos) (tC v) :=
  fun _ _ _ H _ I h => ld_blt I hg hm hv ⟨v, H, I, r, h⟩ hn hd

/-! ### arithmetic -/
variable {a b : Expr} {ta tb : TE} {pos : Pos}
/-! ### comparisons -/
/-- a comparison as a value, as a test -/
def tB (t : TE) : TT := fun σ H Q => t σ H fun x H1 => ∃ c, x = .bl c ∧ Q c H1
/-- an expression whose value is a bool, as a test -/
theorem pt_val {e : Expr} {t : TE} (h : PE X e t) (he : ∀ whole, isTrue e X.env whole = (do let v ← whole; standAt e.pos; holding [v] (truthy v)) := by intro _; rfl) : PT X e (tB t) := by
  intro pins s σ H Q I hw
  refine isTrue_plain (thn (h pins s σ H _ I hw) fun v s1 ⟨x, H1, I1, r1, q1⟩ => ?_) (he _)
  obtain ⟨d, rfl, q⟩ := q1
  cases r1
  exact wpAny_truthy_bool ⟨H1, I1, q⟩

/-! ### and, or, not -/
variable {tA tB' : TT} {rest : List Expr}
def tAnd (t u : TT) : TT := fun σ H Q => t σ H fun c H1 => if c = true then u σ H1 Q else Q false H1
def tOr (t u : TT) : TT := fun σ H Q => t σ H fun c H1 => if c = true then Q true H1 else u σ H1 Q
def tNot (t : TT) : TT := fun σ H Q => t σ H fun c H1 => Q (!c) H1
theorem pw_or1 (ha : PT X a tA) : PW X (.BoolOp .Or [a] pos) tA := by
  intro wh pins s σ H Q I h
  refine isTrue_or (thn (ha pins s σ H Q I h) fun c s1 e => ?_)
  cases c with
  | false => exact isTrue_or_nil e
  | true => exact e
theorem pw_or (ha : PT X a tA) (hb : PW X (.BoolOp .Or (b :: rest) pos) tB') : PW X (.BoolOp .Or (a :: b :: rest) pos) (tOr tA tB') := by
  intro wh pins s σ H Q I h
  refine isTrue_or (thn (ha pins s σ H _ I h) fun c s1 ⟨H1, I1, q1⟩ => ?_)
  cases c with
  | true => exact ⟨H1, I1, q1⟩
  | false => exact hb wh pins s1 σ H1 Q I1 q1
theorem pt_not (ha : PT X a tA) : PT X (.UnaryOp .Not a pos) (tNot tA) := by
  intro pins s σ H Q I h
  exact isTrue_not (ha pins s σ H (fun c H1 => Q (!c) H1) I h)
/-- .. as values (bools) -/
def tAndV (ta tb : TE) : TE := fun σ H Q => ta σ H fun x H1 => ∃ c, x = .bl c ∧ if c = true then tb σ H1 Q else Q (.bl false) H1
def tOrV (ta tb : TE) : TE := fun σ H Q => ta σ H fun x H1 => ∃ c, x = .bl c ∧ if c = true then Q (.bl true) H1 else tb σ H1 Q
def tNotV (ta : TE) : TE := fun σ H Q => ta σ H fun x H1 => ∃ c, x = .bl c ∧ Q (.bl (!c)) H1
theorem pe_one {op} {t : TE} (h : PE X a t) : PE X (.BoolOp op [a] pos) t := fun pins s σ H Q I hw => BoolOp_one (h pins s σ H Q I hw)
theorem pe_and (ha : PE X a ta) (hb : PE X (.BoolOp .And (b :: rest) pos) tb) : PE X (.BoolOp .And (a :: b :: rest) pos) (tAndV ta tb) := by
  intro pins s σ H Q I h
  refine BoolOp_and (thn (ha pins s σ H _ I h) fun v s1 ⟨x, H1, I1, r1, q1⟩ => ?_)
  obtain ⟨c, rfl, q1⟩ := q1
  cases r1
  refine wpAny_truthy_bool ?_
  cases c with
  | true => exact hb pins s1 σ H1 Q I1 q1
  | false => exact ⟨.bl false, H1, I1, rfl, q1⟩
/-- a if t else b -/
def tIf (t : TT) (ta tb : TE) : TE := fun σ H Q => t σ H fun c H1 => if c = true then ta σ H1 Q else tb σ H1 Q
end
end L2

namespace L2
open PySem PySem.Spec PyProof.Rows

/-! ### a list, a tuple that is read: tracked, frozen, or an object of the module -/
def SqL (K : PySem.W.Frag) (H : Hp) (a : Addr) (xs : List V) : Prop :=
  Rd H a (.lst xs) ∨
    ∃ (o : Obj) (its : Array Value) (n : Nat), K.lookup a = some o ∧ o.cls = .type "list" ∧ o.dict = none ∧ o.data = .seq its n ∧ its.size ≤ sizeLine ∧ Vals xs its.toList
def SqT (K : PySem.W.Frag) (H : Hp) (a : Addr) (xs : List V) : Prop :=
  Rd H a (.tup xs) ∨
    ∃ (o : Obj) (its : Array Value) (n : Nat), K.lookup a = some o ∧ o.cls = .type "tuple" ∧ o.data = .seq its n ∧ its.size ≤ sizeLine ∧ Vals xs its.toList
def absV : Value → Option V
  | .none => some .non
  | .bool b => some (.bl b)
  | .int i _ => some (.int i)
  | .str x _ => some (.str x)
  | .bytes b _ => some (.byt b)
  | .float b _ => some (.flt b)
  | .ref a => some (.ref a)
  | .type n => some (.ty n)
  | _ => none
theorem RelV.abs {x : V} {u : Value} (r : RelV x u) : absV u = some x := by
  cases x with
  | non => cases r; rfl
  | bl _ => cases r; rfl
  | int _ => obtain ⟨t, rfl⟩ := r; rfl
  | str _ => obtain ⟨t, rfl⟩ := r; rfl
  | byt _ => obtain ⟨t, rfl⟩ := r; rfl
  | flt _ => obtain ⟨t, rfl⟩ := r; rfl
  | ref _ => cases r; rfl
  | ty _ => cases r; rfl
theorem RelV.inj {x y : V} {u : Value} (r : RelV x u) (q : RelV y u) : x = y := Option.some.inj (r.abs.symm.trans q.abs)
theorem Vals.inj : ∀ {xs ys : List V} {us : List Value}, Vals xs us → Vals ys us → xs = ys
  | _, _, _, .nil, .nil => rfl
  | _, _, _, .cons r t, .cons r' t' => by rw [r.inj r', Vals.inj t t']
section
variable {X : Cx} {pins : List (Addr × Obj)} {σ : St} {H : Hp} {s : Shared} {a : Addr} {xs ys : List V}
theorem SqL.of {K : PySem.W.Frag} (h : H a = some (.lst xs)) : SqL K H a xs := .inl (.inl h)
theorem SqT.of {K : PySem.W.Frag} (h : H a = some (.tup xs)) : SqT K H a xs := .inl (.inl h)
theorem Inv.list (I : Inv X pins σ H s) (h : SqL X.K H a xs) : ∃ its : List Value, Vals xs its ∧ PlainL s.heap a its.toArray ∧ xs.length ≤ sizeLine := by
  rcases h with h | ⟨o, its, n, hk, hc, hd, hs, hz, r⟩
  · obtain ⟨z, its, n, r, e⟩ := h.ok I.hok
    exact ⟨its, r, ⟨_, n, e, rfl, rfl, rfl⟩, z⟩
  · refine ⟨its.toList, r, ⟨o, n, I.kIn a o hk, hc, hd, by simpa using hs⟩, ?_⟩
    have e := r.length
    simp only [Array.length_toList] at e
    omega
theorem Inv.tuple (I : Inv X pins σ H s) (h : SqT X.K H a xs) : ∃ its : List Value, Vals xs its ∧ IsTup s.heap a its.toArray ∧ xs.length ≤ sizeLine := by
  rcases h with h | ⟨o, its, n, hk, hc, hs, hz, r⟩
  · obtain ⟨z, its, r, p⟩ := h.ok I.hok
    exact ⟨its, r, p, z⟩
  · refine ⟨its.toList, r, ⟨o, I.kIn a o hk, hc, n, by simpa using hs⟩, ?_⟩
    have e := r.length
    simp only [Array.length_toList] at e
    omega
theorem Inv.list_inj (I : Inv X pins σ H s) (h : SqL X.K H a xs) (h' : SqL X.K H a ys) : xs = ys := by
  obtain ⟨its, r, ⟨o, n, e, _, _, d⟩, _⟩ := I.list h
  obtain ⟨its', r', ⟨o', n', e', _, _, d'⟩, _⟩ := I.list h'
  rw [e] at e'; cases e'
  rw [d] at d'
  injection d' with d1 _
  have : its = its' := by simpa using congrArg Array.toList d1
  subst this
  exact r.inj r'
theorem Inv.tuple_inj (I : Inv X pins σ H s) (h : SqT X.K H a xs) (h' : SqT X.K H a ys) : xs = ys := by
  obtain ⟨its, r, ⟨o, e, _, n, d⟩, _⟩ := I.tuple h
  obtain ⟨its', r', ⟨o', e', _, n', d'⟩, _⟩ := I.tuple h'
  rw [e] at e'; cases e'
  rw [d] at d'
  injection d' with d1 _
  have : its = its' := by simpa using congrArg Array.toList d1
  subst this
  exact r.inj r'
end

/-! ### another wish about exceptions -/
abbrev Cx.wish (X : Cx) (E : Value → Shared → Prop) : Cx := { X with xe := E }
/-- no exception leaves -/
abbrev Cx.nox (X : Cx) : Cx := X.wish fun _ _ => False
theorem Cx.Ok.wish {X : Cx} (ok : X.Ok) (E : Value → Shared → Prop) : (X.wish E).Ok :=
  ⟨ok.mod, ok.kind, ok.glob, ok.blt, ok.above, ok.inj, ok.has, ok.cab, ok.hd, ok.frames, ok.stk, ok.exf, ok.bs, ok.bsz, ok.noex, ok.exfs, ok.funs, ok.frf⟩
theorem Cx.Ok.unwish {X : Cx} {E : Value → Shared → Prop} (ok : (X.wish E).Ok) : X.Ok :=
  ⟨ok.mod, ok.kind, ok.glob, ok.blt, ok.above, ok.inj, ok.has, ok.cab, ok.hd, ok.frames, ok.stk, ok.exf, ok.bs, ok.bsz, ok.noex, ok.exfs, ok.funs, ok.frf⟩
section
variable {X : Cx} {pins : List (Addr × Obj)} {σ : St} {H : Hp} {s : Shared} {E : Value → Shared → Prop}
theorem Inv.wish (I : Inv X pins σ H s) (E : Value → Shared → Prop) : Inv (X.wish E) pins σ H s := ⟨I.ok.wish E, I.os, I.bare, I.base, I.loc, I.cell, I.free, I.freeC, I.pin, I.hok, I.len⟩
theorem Inv.unwish (I : Inv (X.wish E) pins σ H s) : Inv X pins σ H s := ⟨I.ok.unwish, I.os, I.bare, I.base, I.loc, I.cell, I.free, I.freeC, I.pin, I.hok, I.len⟩
theorem SP.unwish {D : Ends} {f : Flow} {s' : Shared} (h : SP (X.wish E) pins D f s') : SP X pins D f s' := by
  cases f with
  | next => obtain ⟨σ', H', I, q⟩ := h; exact ⟨σ', H', I.unwish, q⟩
  | brk => obtain ⟨σ', H', I, q⟩ := h; exact ⟨σ', H', I.unwish, q⟩
  | cont => obtain ⟨σ', H', I, q⟩ := h; exact ⟨σ', H', I.unwish, q⟩
  | ret u => obtain ⟨v, σ', H', I, r, q⟩ := h; exact ⟨v, σ', H', I.unwish, r, q⟩
theorem PE.nox {e : Expr} {t : TE} (h : PE X.nox e t) : PE X e t := fun pins s σ H Q I hw =>
  wpAny_mono (h pins s σ H Q (I.wish _) hw) (fun _ _ ⟨v, H', I', r, q⟩ => ⟨v, H', I'.unwish, r, q⟩) fun _ _ z => False.elim z
theorem PT.nox {e : Expr} {t : TT} (h : PT X.nox e t) : PT X e t := fun pins s σ H Q I hw =>
  wpAny_mono (h pins s σ H Q (I.wish _) hw) (fun _ _ ⟨H', I', q⟩ => ⟨H', I'.unwish, q⟩) fun _ _ z => False.elim z
theorem PSs.nox {st : List Stmt} {t : TS} (h : PSs X.nox st t) : PSs X st t := fun pins s σ H D I hw =>
  wpAny_mono (h pins s σ H D (I.wish _) hw) (fun _ _ q => q.unwish) fun _ _ z => False.elim z
end

/-! ### blocks and small statements -/
section
variable {X : Cx} {st : Stmt} {rest : List Stmt} {t u : TS} {e : Expr} {te : TE} {pos : Pos}
def tNext : TS := fun D σ H => D.nx σ H
def tSeq (t u : TS) : TS := fun D σ H => t { D with nx := u D } σ H
theorem pss_nil : PSs X [] tNext := fun _ _ σ H _ I h => wpAny_execs_nil ⟨σ, H, I, h⟩
theorem pss_cons (h1 : PS X st t) (h2 : PSs X rest u) : PSs X (st :: rest) (tSeq t u) := by
  intro pins s σ H D I h
  refine wpAny_execs_cons (thn (h1 pins s σ H { D with nx := u D } I h) fun f s1 q => ?_)
  cases f with
  | next =>
    obtain ⟨σ', H', I', q⟩ := q
    exact h2 pins s1 σ' H' D I' q
  | ret v => exact q
  | brk => exact q
  | cont => exact q
theorem pss_one (h1 : PS X st t) : PSs X [st] t := by
  intro pins s σ H D I h
  refine wpAny_execs_cons (thn (h1 pins s σ H D I h) fun f s1 q => ?_)
  cases f with
  | next => exact wpAny_execs_nil q
  | ret v => exact q
  | brk => exact q
  | cont => exact q
def tBreak : TS := fun D σ H => D.bk σ H
def tCont : TS := fun D σ H => D.ct σ H
/-- in a def's body nothing is shown -/
theorem Inv.quiet {pins : List (Addr × Obj)} {σ : St} {H : Hp} {s : Shared} (I : Inv X pins σ H s) : interactive X.env = false := by simp [interactive, I.ok.kind]
/-- an expression whose value is dropped -/
def tDrop (te : TE) : TS := fun D σ H => te σ H fun _ H1 => D.nx σ H1
theorem ps_expr (he : PE X e te) (hs : swapsWith e none pos.line X.env = pure false := by rfl) : PS X (.Expr e pos) (tDrop te) := by
  intro pins s σ H D I h
  exact wpAny_Expr_any (thn (he pins s σ H _ I h) fun v s1 ⟨x, H1, I1, r1, q1⟩ => ⟨σ, H1, I1, q1⟩) I.quiet hs
def tRet (te : TE) : TS := fun D σ H => te σ H D.rt
theorem ps_ret (he : PE X e te) : PS X (.Return (some e) pos) (tRet te) := by
  intro pins s σ H D I h
  exact wpAny_Return_some (thn (he pins s σ H _ I h) fun v s1 ⟨x, H1, I1, r1, q1⟩ => ⟨x, σ, H1, I1, r1, q1⟩)
def tRetN : TS := fun D _ H => D.rt .non H
def tIfS (c : TT) (t u : TS) : TS := fun D σ H => c σ H fun b H1 => if b = true then t D σ H1 else u D σ H1
theorem ps_if {c : Expr} {a b : List Stmt} {tc : TT} (hc : PT X c tc) (ha : PSs X a t) (hb : PSs X b u) : PS X (.If c a b pos) (tIfS tc t u) := by
  intro pins s σ H D I h
  refine wpAny_If (thn (hc pins s σ H _ I h) fun d s1 ⟨H1, I1, q1⟩ => ?_)
  cases d with
  | true => exact ha pins s1 σ H1 D I1 q1
  | false => exact hb pins s1 σ H1 D I1 q1
/-- code that the proof never comes to -/
def tNever : TS := fun _ _ _ => False
theorem ps_never : PS X st tNever := fun _ _ _ _ _ _ h => h.elim
end

/-! ### targets -/
abbrev TG := V → St → Hp → (St → Hp → Prop) → Prop
abbrev TGs := List V → St → Hp → (St → Hp → Prop) → Prop
def PG (X : Cx) (target : Expr) (t : TG) : Prop :=
  ∀ (pins : List (Addr × Obj)) (s : Shared) (σ : St) (H : Hp) (v : V) (u : Value) (Q : St → Hp → Prop), Inv X pins σ H s → RelV v u → t v σ H Q →
    wpAny (model X.prog X.w) X.A (assign target X.env u) (fun _ s' => ∃ σ' H', Inv X pins σ' H' s' ∧ Q σ' H') X.xe s
/-- o[i] = v, by values -/
abbrev TSet := V → V → V → Hp → (Hp → Prop) → Prop
/-- a op= b, by values -/
abbrev TIp := V → V → Hp → VK → Prop
def PIp (X : Cx) (op : Operator) (t : TIp) : Prop :=
  ∀ (pins : List (Addr × Obj)) (s : Shared) (σ : St) (H : Hp) (x y : V) (v u : Value) (Q : VK), Inv X pins σ H s → RelV x v → RelV y u → t x y H Q →
    wpAny (model X.prog X.w) X.A (inplaceOp op v u) (EP X pins σ Q) X.xe s
section
variable {X : Cx} {pos : Pos}
def gName (i : Nat) : TG := fun v σ H Q => Q (σ.set i (some v)) H
theorem pg_name {i : Nat} {x : Str} (hN : X.N.Nodup) (hi : X.N[i]? = some x) (hx : Loc X.env.scope x) (hf : X.fn x = true ∨ X.env.scope.names.lookup x = some .local := by first | exact .inl rfl | exact .inr rfl | assumption) : PG X (.Name x pos) (gName i) := by
  intro pins s σ H v u Q I r h
  exact wpAny_assign_Name (store_ok I hN hi hx r (fun s' I' => ⟨_, H, I', h⟩) hf)
def gNil : TGs := fun vs σ H Q => vs = [] ∧ Q σ H
def gCons (t : TG) (u : TGs) : TGs := fun vs σ H Q => ∃ v r, vs = v :: r ∧ t v σ H fun σ' H' => u r σ' H' Q
/-- o[i] = .. -/
def gSub (to ti : TE) (t : TSet) : TG := fun v σ H Q => to σ H fun o H1 => ti σ H1 fun i H2 => t o i v H2 fun H3 => Q σ H3
/-- target = value -/
def tAsg (te : TE) (g : TG) : TS := fun D σ H => te σ H fun x H1 => g x σ H1 D.nx
/-- name = value -/
theorem ps_set {i : Nat} {x : Str} {e : Expr} {te : TE} {pos' : Pos} (hN : X.N.Nodup) (hi : X.N[i]? = some x) (hx : Loc X.env.scope x) (he : PE X e te) (hs : swapsWith e (some (.Name x pos')) pos.line X.env = pure false := by rfl) (hf : X.fn x = true ∨ X.env.scope.names.lookup x = some .local := by first | exact .inl rfl | exact .inr rfl | assumption) :
    PS X (.Assign [.Name x pos'] e pos) (tAsg te (gName i)) := by
  intro pins s σ H D I h
  refine wpAny_Assign_Name (thn (he pins s σ H _ I h) fun v s1 ⟨y, H1, I1, r1, q1⟩ => ?_) hs
  exact store_ok I1 hN hi hx r1 (fun s2 I2 => ⟨_, H1, I2, q1⟩) hf
/-- a, b = x, y with plain local names: stored from the right; the pair itself is not tracked (the opening rows as in PyProof/Rows/TupAssign.lean:23) -/
def tPar (i j : Nat) (ta : TA) : TS := fun D σ H => ta σ H fun vs H1 => ∃ v w, vs = [v, w] ∧ D.nx ((σ.set i (some v)).set j (some w)) H1
theorem ps_par {i j : Nat} {x y : Str} {a b : Expr} {ta : TA} {px py pt : Pos} {kt k2 pt2} (hc : X.calm = true) (hN : X.N.Nodup) (hi : X.N[i]? = some x) (hj : X.N[j]? = some y) (hij : i ≠ j)
    (hx : X.env.scope.names.lookup x = some .local) (hy : X.env.scope.names.lookup y = some .local) (ha : PA X [a, b] ta)
    (hw : swappedStores [.Tuple [.Name x px, .Name y py] kt pt] (.Tuple [a, b] k2 pt2) X.env = pure (some [x, y]))
    (hs : swapsWithSole [.Tuple [.Name x px, .Name y py] kt pt] (.Tuple [a, b] k2 pt2) pos.line X.env = pure false := by rfl) :
    PS X (.Assign [.Tuple [.Name x px, .Name y py] kt pt] (.Tuple [a, b] k2 pt2) pos) (tPar i j ta) := by
  intro pins s σ H D I h
  rw [exec_Assign_arm]
  refine wpAny_bind (wpAny_standAt ?_)
  rw [hs]
  refine wpAny_bind (wpAny_pure ?_)
  rw [if_neg (by decide)]
  refine wpAny_bind (Tuple_ (thn (ha _ pins s σ H _ I h) fun us s1 ⟨vs, H1, I1, r1, q1⟩ => ?_))
  obtain ⟨v, w, e1, q1⟩ := q1
  subst e1
  obtain ⟨u1, u2, rfl, rv, rw'⟩ : ∃ u1 u2, us = [u1, u2] ∧ RelV v u1 ∧ RelV w u2 := by
    cases r1 with
    | cons p q =>
      cases q with
      | cons p' q' =>
        cases q'
        exact ⟨_, _, rfl, p, p'⟩
  refine wpAny_newObj_type ?_ (by show 2 ≤ sizeLine; decide)
  have I2 : Inv X pins σ H1 { s1 with heap := s1.heap.push { cls := .type "tuple", data := .seq [u1, u2].toArray } } := I1.kept (t' := s1.toks) fun b o e => Heap.get?_push_of_some _ e
  rw [hw]
  refine wpAny_bind (wpAny_pure ?_)
  show wpAny (model X.prog X.w) X.A (do rule "assign.swapped-stores"; let items ← unpackItems (.ref s1.heap.objs.size) 2 none; assignInOrder [fun v => bindName X.env y v, fun v => bindName X.env x v] items.reverse; pure Flow.next) _ _ _
  refine wpAny_bind (wpAny_rule (wpAny_bind (unpackItems_tuple (items := #[u1, u2]) (I.ok.hd hc) (IsTup.new s1.heap _) fun h' hx' => ?_)))
  have I3 := I2.kept (h' := h') (t' := s1.toks) fun b o e => hx' b o (Nat.ne_of_lt (Heap.lt_size e)) e
  show wpAny _ _ (assignInOrder [fun v => bindName X.env y v, fun v => bindName X.env x v] [u2, u1] >>= fun _ => pure Flow.next) _ _ _
  refine wpAny_bind (assignInOrder_cons (wpAny_bindName (store_ok I3 hN hj (.inl hy) rw' (fun s2 I4 => ?_) (.inr hy))))
  refine assignInOrder_cons (wpAny_bindName (store_ok I4 hN hi (.inl hx) rv (fun s3 I5 => assignInOrder_nil (wpAny_pure ?_)) (.inr hx)))
  rw [List.set_comm _ _ (Ne.symm hij)] at I5
  exact ⟨_, H1, I5, q1⟩
/-- name op= e -/
def tAug (i : Nat) (te : TE) (ti : TIp) : TS := fun D σ H => ∃ x, σ[i]? = some (some x) ∧ te σ H fun y H1 => ti x y H1 fun z H2 => D.nx (σ.set i (some z)) H2
theorem ps_aug {i : Nat} {x : Str} {e : Expr} {te : TE} {op : Operator} {ti : TIp} {pos' : Pos} (hN : X.N.Nodup) (hi : X.N[i]? = some x) (hx : Loc X.env.scope x) (he : PE X e te) (ho : PIp X op ti) (hf : X.fn x = true ∨ X.env.scope.names.lookup x = some .local := by first | exact .inl rfl | exact .inr rfl | assumption) :
    PS X (.AugAssign (.Name x pos') op e pos) (tAug i te ti) := by
  intro pins s σ H D I h
  obtain ⟨v, e1, h⟩ := h
  obtain ⟨m, hn, hl⟩ := I.loc
  have vis : Vis X.env.scope x := by rcases hx with k | k; exact .inl k; exact .inr (.inl k)
  obtain ⟨u, r, l⟩ := hl i x v hi e1 vis
  refine wpAny_AugAssign_Name ?_
  have go : wpAny (model X.prog X.w) X.A (eval e X.env) (fun w s₂ => wpAny (model X.prog X.w) X.A (inplaceOp op u w) (fun r s₃ => wpAny (model X.prog X.w) X.A (storeName X.env x r) (fun _ => SP X pins D .next) X.xe s₃) X.xe s₂) X.xe s := by
    refine thn (he pins s σ H _ I h) fun w s1 ⟨y, H1, I1, r1, q1⟩ => ?_
    refine thn (ho pins s1 σ H1 v y u w _ I1 r r1 q1) fun z s2 ⟨zv, H2, I2, r2, q2⟩ => ?_
    exact store_ok I2 hN hi hx r2 (fun s3 I3 => ⟨_, H2, I3, q2⟩) hf
  rcases l with ⟨hk, hm⟩ | ⟨hk, c, hc, hcell⟩
  · exact wpAny_loadName_local I.ok.kind hk hn hm go
  · rcases hk with hk | hk
    · exact wpAny_loadName_cell I.ok.kind hk hc hcell go
    · rcases hx with k | k
      · have : X.env.scope.names.lookup x = some .free := hk
        rw [k] at this; cases this
      · have : X.env.scope.names.lookup x = some .free := hk
        rw [k] at this; cases this
/-- ints -/
def ipI (f : Int → Int → Int) : TIp := fun x y H Q => ∃ i j, x = .int i ∧ y = .int j ∧ Q (.int (f i j)) H
theorem ip_add : PIp X .Add (ipI fun i j => i + j) := by
  intro pins s σ H x y v u Q I r1 r2 h
  obtain ⟨i, j, e1, e2, q⟩ := h
  subst e1; subst e2
  obtain ⟨t, rfl⟩ := r1
  obtain ⟨t', rfl⟩ := r2
  exact iadd_int ⟨.int _, H, I.tok _, ⟨_, rfl⟩, q⟩
end

/-! ### while -/
section
variable {X : Cx} {pos : Pos}
/-- the invariant W with its measure -/
def tWhile (c : TT) (tb : TS) : TS := fun D σ H => ∃ W : Nat → St → Hp → Prop, (∃ m, W m σ H) ∧ ∀ m σ H, W m σ H →
  c σ H fun b H1 => if b = true then ∃ N : St → Hp → Prop, (∀ σ' H', N σ' H' → ∃ m', m' < m ∧ W m' σ' H') ∧ tb { D with nx := N, ct := N, bk := D.nx } σ H1 else D.nx σ H1
theorem ps_while {c : Expr} {body : List Stmt} {tc : TT} {tb : TS} (hp : PassesOwn (model X.prog X.w) X.A X.env X.xe) (hc : PT X c tc) (hb : PSs X body tb) : PS X (.While c body [] pos) (tWhile tc tb) := by
  intro pins s σ H D I h
  obtain ⟨W, ⟨m0, w0⟩, turn⟩ := h
  refine wpAny_While (codeAny_whileLoop (fun n s' => ∃ σ' H', Inv X pins σ' H' s' ∧ W n σ' H') ?_ m0 ⟨σ, H, I, w0⟩)
  rintro n s1 ⟨σ1, H1, I1, w1⟩
  refine wpAny_passesOwn hp (thn (hc pins s1 σ1 H1 _ I1 (turn n σ1 H1 w1)) fun b s2 ⟨H2, I2, q2⟩ => ?_)
  cases b with
  | true =>
    obtain ⟨N, hN, q2⟩ := q2
    rw [if_pos rfl]
    refine wpAny_passesOwn hp (thn (hb pins s2 σ1 H2 _ I2 q2) fun f s3 q3 => ?_)
    cases f with
    | next =>
      obtain ⟨σ3, H3, I3, n3⟩ := q3
      obtain ⟨m', hm, w3⟩ := hN σ3 H3 n3
      exact ⟨m', hm, σ3, H3, I3, w3⟩
    | cont =>
      obtain ⟨σ3, H3, I3, n3⟩ := q3
      obtain ⟨m', hm, w3⟩ := hN σ3 H3 n3
      exact ⟨m', hm, σ3, H3, I3, w3⟩
    | brk => exact q3
    | ret v => exact q3
  | false =>
    rw [if_neg Bool.false_ne_true]
    exact wpAny_execs_nil ⟨σ1, H2, I2, q2⟩
end

/-! ### what a loop or a comprehension walks -/
/-- at turn i: it yields x (the heap may grow), or it stops -/
structure It where
  go : Nat → Hp → Prop
  yld : Nat → Hp → V → Hp → Prop
  stop : Nat → Hp → Prop
/-- the iterator's own objects may turn: they are not the frame's, not pinned, younger than the entry (or a comprehension's own) -/
def FpOk (X : Cx) (pins : List (Addr × Obj)) (H : Hp) (b : Addr) : Prop :=
  H b = none ∧ b ≠ X.env.locals ∧ b ∉ X.fs ∧ (b ∈ X.ex ∨ X.s₀.heap.objs.size ≤ b) ∧ (∀ x c, X.env.cells.lookup x = some c → c ≠ b) ∧ ∀ p ∈ X.pn ++ pins, p.1 ≠ b
theorem Inv.fpOk {X : Cx} {pins : List (Addr × Obj)} {σ : St} {H H' : Hp} {s : Shared} {b : Addr} (I : Inv X pins σ H s) (hb : s.heap.objs.size ≤ b) (hn : H' b = none) : FpOk X pins H' b := by
  refine ⟨hn, Nat.ne_of_gt (Nat.lt_of_lt_of_le I.lt hb), I.nofs hb, .inr (Nat.le_trans I.sz hb), fun x c e z => ?_, fun p hp z => ?_⟩
  · obtain ⟨v, q⟩ := I.cell x c e
    exact absurd (Nat.lt_of_lt_of_le q.lt (by rw [z]; exact hb)) (Nat.lt_irrefl _)
  · exact absurd (Nat.lt_of_lt_of_le (Heap.lt_size (I.pin p hp).1) (by rw [z]; exact hb)) (Nat.lt_irrefl _)
structure Turn (P : Program) (w : World) (K : PySem.W.Frag) (tg : Expr) (J : It) (fp : List Addr) (it : Addr) (tn : Nat → Heap → Prop) : Prop where
  mem : it ∈ fp
  obj : ∀ i h, tn i h → ∀ b ∈ fp, ∃ o, h.get? b = some o ∧ ∀ v, o.data ≠ .cell v
  keep : ∀ i h h', tn i h → (∀ b ∈ fp, ∀ o, h.get? b = some o → h'.get? b = some o) → tn i h'
  item : ∀ (X : Cx), X.prog = P → X.w = w → X.K = K → X.calm = true → ∀ (i : Nat) (pins : List (Addr × Obj)) (s : Shared) (σ : St) (H : Hp) (E : Value → Shared → Prop), Inv X pins σ H s → (∀ b ∈ fp, FpOk X pins H b) → tn i s.heap → J.go i H →
    wpAny (model P w) X.A (pyNext (.ref it)) (fun r s1 => ∃ u, r = some u ∧
      wpAny (model P w) X.A (letOwnedTupleGo tg (.ref it) u) (fun _ s2 => ∃ x H', Inv X pins σ H' s2 ∧ RelV x u ∧ J.yld i H x H' ∧ tn (i + 1) s2.heap ∧ ∀ b ∈ fp, H' b = none) E s1) E s
  done : ∀ (X : Cx), X.prog = P → X.w = w → X.K = K → X.calm = true → ∀ (i : Nat) (pins : List (Addr × Obj)) (s : Shared) (σ : St) (H : Hp) (E : Value → Shared → Prop), Inv X pins σ H s → (∀ b ∈ fp, FpOk X pins H b) → tn i s.heap → J.stop i H →
    wpAny (model P w) X.A (pyNext (.ref it)) (fun r s1 => r = none ∧ Inv X pins σ H s1) E s
  self : ∀ (A : Around) (i : Nat) (s : Shared) (Q : Value → Shared → Prop) (E : Value → Shared → Prop), tn i s.heap → Q (.ref it) s → wpAny (model P w) A (pyIter (.ref it)) Q E s
abbrev TI := St → Hp → (It → Hp → Prop) → Prop
/-- an iterator has come -/
def PIE (X : Cx) (pins : List (Addr × Obj)) (σ : St) (tg : Expr) (R : It → Hp → Prop) (itv : Value) (s2 : Shared) : Prop :=
  ∃ (it : Addr) (fp : List Addr) (tn : Nat → Heap → Prop) (J : It) (H' : Hp), itv = .ref it ∧ Inv X pins σ H' s2 ∧ Turn X.prog X.w X.K tg J fp it tn ∧ tn 0 s2.heap ∧ (∀ b ∈ fp, FpOk X pins H' b) ∧ R J H'
def PI (X : Cx) (tg iter : Expr) (wi : TI) : Prop :=
  ∀ (pins : List (Addr × Obj)) (s : Shared) (σ : St) (H : Hp) (R : It → Hp → Prop), Inv X pins σ H s → wi σ H R →
    wpAny (model X.prog X.w) X.A (eval iter X.env) (fun v s1 => wpAny (model X.prog X.w) X.A (pyIter v) (PIE X pins σ tg R) X.xe s1) X.xe s

/-- the step ahead of the store is nothing for an iterator that keeps no tuple -/
theorem go_of {M : Model} {A : Around} {E : Value → Shared → Prop} {s : Shared} {tg : Expr} {it : Addr} {u : Value} {o : Obj} {n : String} {vs : Array Value} {Q : Unit → Shared → Prop} (ho : s.heap.get? it = some o) (hc : o.cls = .type n) (hd : o.data = .fields vs)
    (hn : ["enumerate", "zip", "dict_itemiterator", "dict_reverseitemiterator", "odict_iterator", "itertools.zip_longest", "itertools.pairwise"].contains n = false) (hQ : Q () s) : wpAny M A (letOwnedTupleGo tg (.ref it) u) Q E s := by
  unfold letOwnedTupleGo
  cases tg <;> first
    | exact wpAny_pure hQ
    | (cases u <;> first
        | exact wpAny_pure hQ
        | (refine wpAny_bind (wpAny_load ho ?_)
           rw [hc, hd]
           show wpAny M A (if (["enumerate", "zip", "dict_itemiterator", "dict_reverseitemiterator", "odict_iterator", "itertools.zip_longest", "itertools.pairwise"].contains n && vs[0]? == some (rawInt _)) = true then _ else _) Q E s
           rw [if_neg (by intro h; rw [hn, Bool.false_and] at h; cases h)]
           exact wpAny_pure hQ))

/-- the list at a, as it stands at each turn (a loop may append to it) -/
def Itl (K : PySem.W.Frag) (a : Addr) : It :=
  ⟨fun i H => ∃ xs x, SqL K H a xs ∧ xs[i]? = some x, fun i H x H' => H' = H ∧ ∀ xs, SqL K H a xs → xs[i]? = some x, fun i H => ∃ xs, SqL K H a xs ∧ xs.length ≤ i⟩
def Itt (K : PySem.W.Frag) (a : Addr) : It :=
  ⟨fun i H => ∃ xs x, SqT K H a xs ∧ xs[i]? = some x, fun i H x H' => H' = H ∧ ∀ xs, SqT K H a xs → xs[i]? = some x, fun i H => ∃ xs, SqT K H a xs ∧ xs.length ≤ i⟩
/-- lo, lo + 1, .. (n of them) -/
def Itr (lo : Int) (n : Nat) : It := ⟨fun i _ => i < n, fun i H x H' => H' = H ∧ x = .int (lo + i), fun i _ => n ≤ i⟩
theorem turn_list {P : Program} {w : World} {K : PySem.W.Frag} {tg : Expr} (a it : Addr) : Turn P w K tg (Itl K a) [it] it (fun i h => h.IsListIter it a i) where
  mem := by simp
  obj := fun i h st b hb => by
    have e : b = it := by simpa using hb
    subst e
    obtain ⟨o, e, c, d⟩ := st
    exact ⟨o, e, fun v z => by rw [d] at z; cases z⟩
  keep := fun i h h' st k => st.at fun o e => k it (by simp) o e
  item := by
    intro X hP hw hK hc i pins s σ H E I hf st hg
    subst hP hw hK
    obtain ⟨xs, x, hq, hx⟩ := hg
    obtain ⟨its, rv, p, hz⟩ := I.list hq
    obtain ⟨u, hu, ru⟩ := rv.get hx
    obtain ⟨f0, f1, f2, f3, f4, f5⟩ := hf it (by simp)
    refine wpAny_pyNext_list_item st p.isList (x := u) (by simpa using hu) fun h' st' sb => ?_
    have I1 : Inv X pins σ H { s with heap := h' } := I.turned (t' := s.toks) (fun b o hb e => (sb.2 b hb).trans e) f0 f1 f3 f4 f5
    obtain ⟨o, e, c, d⟩ := id st'
    exact ⟨u, rfl, go_of (s := { s with heap := h' }) e c d (by decide) ⟨x, H, I1, ru, ⟨rfl, fun ys hy => by rw [I.list_inj hy hq]; exact hx⟩, st', fun b hb => (hf b hb).1⟩⟩
  done := by
    intro X hP hw hK hc i pins s σ H E I hf st hg
    subst hP hw hK
    obtain ⟨xs, hq, hx⟩ := hg
    obtain ⟨its, rv, p, hz⟩ := I.list hq
    obtain ⟨f0, f1, f2, f3, f4, f5⟩ := hf it (by simp)
    have hl := rv.length
    exact wpAny_pyNext_list_end (I.ok.hd hc) st p.isList (by simp; omega) fun h' eb => ⟨rfl, I.turned (t' := s.toks) (fun b o hb e => eb b o hb e) f0 f1 f3 f4 f5⟩
  self := fun _ _ _ _ _ st h => wpAny_pyIter_listiter st h
theorem turn_tuple {P : Program} {w : World} {K : PySem.W.Frag} {tg : Expr} (a it : Addr) : Turn P w K tg (Itt K a) [it] it (fun i h => h.IsTupleIter it a i) where
  mem := by simp
  obj := fun i h st b hb => by
    have e : b = it := by simpa using hb
    subst e
    obtain ⟨o, e, c, d⟩ := st
    exact ⟨o, e, fun v z => by rw [d] at z; cases z⟩
  keep := fun i h h' st k => st.at fun o e => k it (by simp) o e
  item := by
    intro X hP hw hK hc i pins s σ H E I hf st hg
    subst hP hw hK
    obtain ⟨xs, x, hq, hx⟩ := hg
    obtain ⟨its, rv, p, hz⟩ := I.tuple hq
    obtain ⟨u, hu, ru⟩ := rv.get hx
    obtain ⟨f0, f1, f2, f3, f4, f5⟩ := hf it (by simp)
    refine wpAny_pyNext_tuple_item st (show s.heap.IsTuple a its.toArray from p) (x := u) (by simpa using hu) fun h' st' sb => ?_
    have I1 : Inv X pins σ H { s with heap := h' } := I.turned (t' := s.toks) (fun b o hb e => (sb.2 b hb).trans e) f0 f1 f3 f4 f5
    obtain ⟨o, e, c, d⟩ := id st'
    exact ⟨u, rfl, go_of (s := { s with heap := h' }) e c d (by decide) ⟨x, H, I1, ru, ⟨rfl, fun ys hy => by rw [I.tuple_inj hy hq]; exact hx⟩, st', fun b hb => (hf b hb).1⟩⟩
  done := by
    intro X hP hw hK hc i pins s σ H E I hf st hg
    subst hP hw hK
    obtain ⟨xs, hq, hx⟩ := hg
    obtain ⟨its, rv, p, hz⟩ := I.tuple hq
    obtain ⟨f0, f1, f2, f3, f4, f5⟩ := hf it (by simp)
    have hl := rv.length
    exact wpAny_pyNext_tuple_end (I.ok.hd hc) st (show s.heap.IsTuple a its.toArray from p) (by simp; omega) fun h' eb => ⟨rfl, I.turned (t' := s.toks) (fun b o hb e => eb b o hb e) f0 f1 f3 f4 f5⟩
  self := fun _ _ _ _ _ st h => wpAny_pyIter_tupleiter st h
theorem turn_range {P : Program} {w : World} {K : PySem.W.Frag} {tg : Expr} (it : Addr) (lo : Int) (n : Nat) : Turn P w K tg (Itr lo n) [it] it (fun i h => IsRangeIter h it (lo + (i : Nat) * 1) ((n : Int) - (i : Nat)) 1) where
  mem := by simp
  obj := fun i h st b hb => by
    have e : b = it := by simpa using hb
    subst e
    exact ⟨_, st, fun v z => by
      have z' : Data.fields _ = Data.cell v := z
      cases z'⟩
  keep := fun i h h' st k => k it (by simp) _ st
  item := by
    intro X hP hw hK hc i pins s σ H E I hf st hg
    subst hP hw hK
    obtain ⟨f0, f1, f2, f3, f4, f5⟩ := hf it (by simp)
    have W := Walks.range (prog := X.prog) (w := X.w) (I.ok.hd hc) it lo 1 n
    refine W.item i s _ _ hg st fun v h' tk hv st' kk => ?_
    obtain ⟨t, rfl⟩ := hv
    have I1 : Inv X pins σ H { s with heap := h', toks := tk } := I.turned (fun b o hb e => kk b o (by simpa using hb) e) f0 f1 f3 f4 f5
    refine ⟨_, rfl, go_of (s := { s with heap := h', toks := tk }) (n := "range_iterator") st' rfl rfl (by decide) ⟨.int (lo + i), H, I1, ⟨t, ?_⟩, ⟨rfl, rfl⟩, st', fun b hb => (hf b hb).1⟩⟩
    rw [Int.mul_one]
  done := by
    intro X hP hw hK hc i pins s σ H E I hf st hg
    subst hP hw hK
    obtain ⟨f0, f1, f2, f3, f4, f5⟩ := hf it (by simp)
    exact wpAny_pyNext_range_end (I.ok.hd hc) st (by have : n ≤ i := hg; omega) fun h' eb => ⟨rfl, I.turned (t' := s.toks) (fun b o hb e => eb b o hb e) f0 f1 f3 f4 f5⟩
  self := fun _ _ _ _ _ st h => wpAny_pyIter_rangeiter st h
end L2

namespace L2
open PySem PySem.Spec PyProof.Rows
section
variable {X : Cx} {tg : Expr}
def iList (K : PySem.W.Frag) (tl : TE) : TI := fun σ H R => tl σ H fun x H1 => ∃ a, x = .ref a ∧ (∃ xs, SqL K H1 a xs) ∧ R (Itl K a) H1
def iTup (K : PySem.W.Frag) (tl : TE) : TI := fun σ H R => tl σ H fun x H1 => ∃ a, x = .ref a ∧ (∃ xs, SqT K H1 a xs) ∧ R (Itt K a) H1
theorem pi_list {l : Expr} {tl : TE} (hl : PE X l tl) : PI X tg l (iList X.K tl) := by
  intro pins s σ H R I h
  refine thn (hl pins s σ H _ I h) fun v s1 ⟨x, H1, I1, r1, q1⟩ => ?_
  obtain ⟨a, e, ⟨xs, hq⟩, q⟩ := q1
  subst e
  cases r1
  obtain ⟨its, rv, p, hz⟩ := I1.list hq
  refine wpAny_pyIter_list p.isList ?_
  refine ⟨s1.heap.objs.size, [s1.heap.objs.size], _, _, H1, rfl, I1.kept (t' := s1.toks) fun b o e => Heap.get?_push_of_some _ e, turn_list a _, ⟨_, Heap.get?_push_size _ rfl, rfl, rfl⟩, fun b hb => ?_, q⟩
  have e : b = s1.heap.objs.size := by simpa using hb
  subst e
  exact I1.fpOk (Nat.le_refl _) (I1.hok.fresh (Nat.le_refl _))
theorem pi_tup {l : Expr} {tl : TE} (hl : PE X l tl) : PI X tg l (iTup X.K tl) := by
  intro pins s σ H R I h
  refine thn (hl pins s σ H _ I h) fun v s1 ⟨x, H1, I1, r1, q1⟩ => ?_
  obtain ⟨a, e, ⟨xs, hq⟩, q⟩ := q1
  subst e
  cases r1
  obtain ⟨its, rv, p, hz⟩ := I1.tuple hq
  refine wpAny_pyIter_tuple (show s1.heap.IsTuple a its.toArray from p) ?_
  refine ⟨s1.heap.objs.size, [s1.heap.objs.size], _, _, H1, rfl, I1.kept (t' := s1.toks) fun b o e => Heap.get?_push_of_some _ e, turn_tuple a _, ⟨_, Heap.get?_push_size _ rfl, rfl, rfl⟩, fun b hb => ?_, q⟩
  have e : b = s1.heap.objs.size := by simpa using hb
  subst e
  exact I1.fpOk (Nat.le_refl _) (I1.hok.fresh (Nat.le_refl _))
/-- a range object just made, walked -/
theorem range_it {pins : List (Addr × Obj)} {σ : St} {H : Hp} {s : Shared} {R : It → Hp → Prop} {E : Value → Shared → Prop} {lo hi : Int} {t u v : Tok} {tk : Nat} (I : Inv X pins σ H s) (h1 : -(2 ^ 62) ≤ lo) (h2 : lo < 2 ^ 62) (h3 : -(2 ^ 62) ≤ hi) (h4 : hi < 2 ^ 62)
    (q : R (Itr lo (hi - lo).toNat) H) : wpAny (model X.prog X.w) X.A (pyIter (.ref s.heap.objs.size)) (PIE X pins σ tg R) E { s with heap := s.heap.push { cls := .type "range", data := .fields #[.int lo t, .int hi u, .int 1 v] }, toks := tk } := by
  refine wpAny_pyIter_range (IsRange.new ..) (small_one h1 h2 h3 h4) ?_
  have I1 : Inv X pins σ H { s with heap := s.heap.push { cls := .type "range", data := .fields #[.int lo t, .int hi u, .int 1 v] }, toks := tk } := I.kept fun b o e => Heap.get?_push_of_some _ e
  refine ⟨(s.heap.push { cls := .type "range", data := .fields #[.int lo t, .int hi u, .int 1 v] }).objs.size, [(s.heap.push { cls := .type "range", data := .fields #[.int lo t, .int hi u, .int 1 v] }).objs.size], _, _, H, rfl,
    I1.kept (t' := tk) fun b o e => Heap.get?_push_of_some _ e, turn_range _ lo (hi - lo).toNat, ?_, fun b hb => ?_, q⟩
  · have e1 : lo + ((0 : Nat) : Int) * 1 = lo := by simp
    have e2 : (((hi - lo).toNat : Nat) : Int) - ((0 : Nat) : Int) = Builtin.Range.rangeSize lo hi 1 := by rw [rangeSize_one]; split <;> omega
    show IsRangeIter _ _ (lo + ((0 : Nat) : Int) * 1) ((((hi - lo).toNat : Nat) : Int) - ((0 : Nat) : Int)) 1
    rw [e1, e2]
    exact Heap.get?_push_size _ rfl
  · have e : b = (s.heap.push { cls := .type "range", data := .fields #[.int lo t, .int hi u, .int 1 v] }).objs.size := by simpa using hb
    subst e
    exact I1.fpOk (Nat.le_refl _) (I1.hok.fresh (Nat.le_refl _))
def iRng1 (ta : TA) : TI := fun σ H R => ta σ H fun vs H1 => ∃ j : Int, vs = [.int j] ∧ -(2 ^ 62) ≤ j ∧ j < 2 ^ 62 ∧ R (Itr 0 j.toNat) H1
def iRng2 (ta : TA) : TI := fun σ H R => ta σ H fun vs H1 => ∃ i j : Int, vs = [.int i, .int j] ∧ (-(2 ^ 62) ≤ i ∧ i < 2 ^ 62 ∧ -(2 ^ 62) ≤ j ∧ j < 2 ^ 62) ∧ R (Itr i (j - i).toNat) H1
theorem pi_range1 {a : Expr} {ta : TA} {p pos : Pos} (hg : Gl X "range") (hm : X.mg "range" = none) (ha : PA X [a] ta) (hs : starEach [a] X.env = [(false, eval a X.env)] := by rfl) : PI X tg (.Call (.Name "range" p) [a] [] pos) (iRng1 ta) := by
  intro pins s σ H R I h
  refine Call_ (ld_blt I hg hm boot_range (PyProof.Rows.callWith_type1 (thn (ha pos pins s σ H _ I h) fun us s1 ⟨vs, H1, I1, r1, q1⟩ => ?_) hs rfl))
  obtain ⟨j, e, q1, q2, q⟩ := q1
  subst e
  cases r1 with
  | cons r rr =>
    cases rr
    obtain ⟨t, rfl⟩ := r
    exact call_range_1 (range_it I1 (by omega) (by omega) q1 q2 (by simpa using q))
/-! ### for -/
/-- W: the invariant by the turn and a measure; N: what the body is to reach -/
def tFor (wi : TI) (g : TG) (tb : TS) : TS := fun D σ H => wi σ H fun J H1 => ∃ W : Nat → Nat → St → Hp → Prop, (∃ m, W 0 m σ H1) ∧ ∀ i m σ H, W i m σ H →
  (J.stop i H ∧ D.nx σ H) ∨ (J.go i H ∧ ∃ N : St → Hp → Prop, (∀ σ' H', N σ' H' → ∃ m', m' < m ∧ W (i + 1) m' σ' H') ∧ ∀ x H', J.yld i H x H' → g x σ H' fun σ2 H2 => tb { D with nx := N, ct := N, bk := D.nx } σ2 H2)
/-- the records at fp as they stand -/
def pinsAt (fp : List Addr) (h : Heap) : List (Addr × Obj) := fp.filterMap fun b => (h.get? b).map fun o => (b, o)
theorem mem_pinsAt {fp : List Addr} {h : Heap} {b : Addr} {o : Obj} (hb : b ∈ fp) (e : h.get? b = some o) : (b, o) ∈ pinsAt fp h := List.mem_filterMap.mpr ⟨b, hb, by rw [e]; rfl⟩
theorem of_pinsAt {fp : List Addr} {h : Heap} {p : Addr × Obj} (hp : p ∈ pinsAt fp h) : p.1 ∈ fp ∧ h.get? p.1 = some p.2 := by
  obtain ⟨b, hb, e⟩ := List.mem_filterMap.mp hp
  cases q : h.get? b with
  | none => rw [q] at e; cases e
  | some o =>
    rw [q] at e
    have e' : (b, o) = p := Option.some.inj e
    subst e'
    exact ⟨hb, q⟩
theorem Inv.pinned {pins : List (Addr × Obj)} {σ : St} {H : Hp} {s : Shared} {fp : List Addr} (I : Inv X pins σ H s) (hf : ∀ b ∈ fp, FpOk X pins H b) (ho : ∀ b ∈ fp, ∃ o, s.heap.get? b = some o ∧ ∀ v, o.data ≠ .cell v) : Inv X (pins ++ pinsAt fp s.heap) σ H s :=
  I.pins_of fun p hp => (List.mem_append.mp hp).elim (fun z => I.pin p (List.mem_append_right _ z)) fun z => by
    obtain ⟨hb, e⟩ := of_pinsAt z
    obtain ⟨f0, f1, f2, _⟩ := hf p.1 hb
    obtain ⟨o, e', d⟩ := ho p.1 hb
    rw [e] at e'; cases e'
    exact ⟨e, f0, f1, f2, d⟩
theorem Inv.unpinned {pins pl : List (Addr × Obj)} {σ : St} {H : Hp} {s : Shared} (I : Inv X (pins ++ pl) σ H s) : Inv X pins σ H s := I.pins_of fun p hp => I.pin p (List.mem_append_right _ (List.mem_append_left _ hp))
theorem ps_for {iter : Expr} {body : List Stmt} {wi : TI} {g : TG} {tb : TS} {pos : Pos} (hp : PassesOwn (model X.prog X.w) X.A X.env X.xe) (hc : X.calm = true) (hi : PI X tg iter wi) (hg : PG X tg g) (hb : PSs X body tb)
    (hs : ∀ x, foldedSetIterable iter X.env x = pure x := by intro _; rfl) : PS X (.For tg iter body [] pos) (tFor wi g tb) := by
  intro pins s σ H D I h
  refine wpAny_For (thn (hi pins s σ H _ I h) fun v s1 h1 => thn h1 fun itv s2 h2 => ?_) hs
  obtain ⟨it, fp, tn, J, H2, e, I2, T, st2, f2, W, ⟨m0, w0⟩, turn⟩ := h2
  subst e
  -- what stays true of the iterator's objects through the loop
  have stat : ∀ {H' : Hp}, (∀ b ∈ fp, H' b = none) → ∀ b ∈ fp, FpOk X pins H' b := fun hn b hb => ⟨hn b hb, (f2 b hb).2⟩
  refine codeAny_forLoop_any (fun n s' => ∃ i σ' H', Inv X pins σ' H' s' ∧ tn i s'.heap ∧ (∀ b ∈ fp, H' b = none) ∧ W i n σ' H') ?_ m0 ⟨0, σ, H2, I2, st2, fun b hb => (f2 b hb).1, w0⟩
  rintro n s3 ⟨i, σ3, H3, I3, st3, fr3, w3⟩
  rcases turn i n σ3 H3 w3 with ⟨stop, qn⟩ | ⟨go, N, hN, step⟩
  · refine wpAny_passesOwn hp (thn (T.done X rfl rfl rfl hc i pins s3 σ3 H3 X.xe I3 (stat fr3) st3 stop) fun r s4 ⟨hr, I4⟩ => ?_)
    subst hr
    exact wpAny_execs_nil ⟨σ3, H3, I4, qn⟩
  · refine wpAny_passesOwn hp (thn (T.item X rfl rfl rfl hc i pins s3 σ3 H3 X.xe I3 (stat fr3) st3 go) fun r s4 ⟨u, hr, h4⟩ => ?_)
    subst hr
    refine wpAny_passesOwn hp (thn h4 fun _ s5 ⟨x, H5, I5, r5, y5, st5, fr5⟩ => ?_)
    have I5' := I5.pinned (stat fr5) (T.obj _ _ st5)
    refine wpAny_passesOwn hp (thn (hg _ s5 σ3 H5 x u _ I5' r5 (step x H5 y5)) fun _ s6 ⟨σ6, H6, I6, q6⟩ => ?_)
    refine wpAny_passesOwn hp (thn (hb _ s6 σ6 H6 _ I6 q6) fun f s7 q7 => ?_)
    have again : ∀ {σ7 : St} {H7 : Hp}, Inv X (pins ++ pinsAt fp s5.heap) σ7 H7 s7 → N σ7 H7 → ∃ m, m < n ∧ ∃ i σ' H', Inv X pins σ' H' s7 ∧ tn i s7.heap ∧ (∀ b ∈ fp, H' b = none) ∧ W i m σ' H' := fun {σ7 H7} I7 n7 => by
      obtain ⟨m', hm, w7⟩ := hN σ7 H7 n7
      refine ⟨m', hm, i + 1, σ7, H7, I7.unpinned, T.keep _ _ _ st5 fun b hb o e => (I7.pin (b, o) (List.mem_append_right _ (List.mem_append_right _ (mem_pinsAt hb e)))).1, fun b hb => ?_, w7⟩
      obtain ⟨o, e, d⟩ := T.obj _ _ st5 b hb
      exact (I7.pin (b, o) (List.mem_append_right _ (List.mem_append_right _ (mem_pinsAt hb e)))).2.1
    cases f with
    | next => obtain ⟨σ7, H7, I7, n7⟩ := q7; exact again I7 n7
    | cont => obtain ⟨σ7, H7, I7, n7⟩ := q7; exact again I7 n7
    | brk => obtain ⟨σ7, H7, I7, q7⟩ := q7; exact ⟨σ7, H7, I7.unpinned, q7⟩
    | ret v => obtain ⟨x7, σ7, H7, I7, r7, q7⟩ := q7; exact ⟨x7, σ7, H7, I7.unpinned, r7, q7⟩
end

/-! ### the forms one uses -/
/-- over a list that the body leaves as it is -/
theorem for_list {K : PySem.W.Frag} {a : Addr} {xs : List V} {g : TG} {tb : TS} {D : Ends} {σ : St} {H : Hp} (Pv : Nat → St → Hp → Prop) (h0 : Pv 0 σ H) (hl : ∀ i σ H, i ≤ xs.length → Pv i σ H → SqL K H a xs)
    (hs : ∀ i x σ H, xs[i]? = some x → Pv i σ H → g x σ H fun σ2 H2 => tb { D with nx := Pv (i + 1), ct := Pv (i + 1), bk := D.nx } σ2 H2) (hd : ∀ σ H, Pv xs.length σ H → D.nx σ H) :
    ∃ W : Nat → Nat → St → Hp → Prop, (∃ m, W 0 m σ H) ∧ ∀ i m σ H, W i m σ H →
      ((Itl K a).stop i H ∧ D.nx σ H) ∨ ((Itl K a).go i H ∧ ∃ N : St → Hp → Prop, (∀ σ' H', N σ' H' → ∃ m', m' < m ∧ W (i + 1) m' σ' H') ∧ ∀ x H', (Itl K a).yld i H x H' → g x σ H' fun σ2 H2 => tb { D with nx := N, ct := N, bk := D.nx } σ2 H2) := by
  refine ⟨fun i m σ H => m = xs.length - i ∧ i ≤ xs.length ∧ Pv i σ H, ⟨xs.length, by simp, Nat.zero_le _, h0⟩, ?_⟩
  rintro i m σ H ⟨rfl, hi, p⟩
  have q := hl i σ H hi p
  by_cases hlt : i < xs.length
  · refine .inr ⟨⟨xs, xs[i], q, by simp [hlt]⟩, Pv (i + 1), fun σ' H' p' => ⟨xs.length - (i + 1), by omega, rfl, hlt, p'⟩, fun x H' y => ?_⟩
    obtain ⟨e, y⟩ := y
    subst e
    exact hs i x σ _ (y xs q) p
  · have e : i = xs.length := by omega
    subst e
    exact .inl ⟨⟨xs, q, Nat.le_refl _⟩, hd σ H p⟩
theorem for_tup {K : PySem.W.Frag} {a : Addr} {xs : List V} {g : TG} {tb : TS} {D : Ends} {σ : St} {H : Hp} (Pv : Nat → St → Hp → Prop) (h0 : Pv 0 σ H) (hl : ∀ i σ H, i ≤ xs.length → Pv i σ H → SqT K H a xs)
    (hs : ∀ i x σ H, xs[i]? = some x → Pv i σ H → g x σ H fun σ2 H2 => tb { D with nx := Pv (i + 1), ct := Pv (i + 1), bk := D.nx } σ2 H2) (hd : ∀ σ H, Pv xs.length σ H → D.nx σ H) :
    ∃ W : Nat → Nat → St → Hp → Prop, (∃ m, W 0 m σ H) ∧ ∀ i m σ H, W i m σ H →
      ((Itt K a).stop i H ∧ D.nx σ H) ∨ ((Itt K a).go i H ∧ ∃ N : St → Hp → Prop, (∀ σ' H', N σ' H' → ∃ m', m' < m ∧ W (i + 1) m' σ' H') ∧ ∀ x H', (Itt K a).yld i H x H' → g x σ H' fun σ2 H2 => tb { D with nx := N, ct := N, bk := D.nx } σ2 H2) := by
  refine ⟨fun i m σ H => m = xs.length - i ∧ i ≤ xs.length ∧ Pv i σ H, ⟨xs.length, by simp, Nat.zero_le _, h0⟩, ?_⟩
  rintro i m σ H ⟨rfl, hi, p⟩
  have q := hl i σ H hi p
  by_cases hlt : i < xs.length
  · refine .inr ⟨⟨xs, xs[i], q, by simp [hlt]⟩, Pv (i + 1), fun σ' H' p' => ⟨xs.length - (i + 1), by omega, rfl, hlt, p'⟩, fun x H' y => ?_⟩
    obtain ⟨e, y⟩ := y
    subst e
    exact hs i x σ _ (y xs q) p
  · have e : i = xs.length := by omega
    subst e
    exact .inl ⟨⟨xs, q, Nat.le_refl _⟩, hd σ H p⟩
theorem for_range {lo : Int} {n : Nat} {g : TG} {tb : TS} {D : Ends} {σ : St} {H : Hp} (Pv : Nat → St → Hp → Prop) (h0 : Pv 0 σ H)
    (hs : ∀ i σ H, i < n → Pv i σ H → g (.int (lo + i)) σ H fun σ2 H2 => tb { D with nx := Pv (i + 1), ct := Pv (i + 1), bk := D.nx } σ2 H2) (hd : ∀ σ H, Pv n σ H → D.nx σ H) :
    ∃ W : Nat → Nat → St → Hp → Prop, (∃ m, W 0 m σ H) ∧ ∀ i m σ H, W i m σ H →
      ((Itr lo n).stop i H ∧ D.nx σ H) ∨ ((Itr lo n).go i H ∧ ∃ N : St → Hp → Prop, (∀ σ' H', N σ' H' → ∃ m', m' < m ∧ W (i + 1) m' σ' H') ∧ ∀ x H', (Itr lo n).yld i H x H' → g x σ H' fun σ2 H2 => tb { D with nx := N, ct := N, bk := D.nx } σ2 H2) := by
  refine ⟨fun i m σ H => m = n - i ∧ i ≤ n ∧ Pv i σ H, ⟨n, by simp, Nat.zero_le _, h0⟩, ?_⟩
  rintro i m σ H ⟨rfl, hi, p⟩
  by_cases hlt : i < n
  · refine .inr ⟨hlt, Pv (i + 1), fun σ' H' p' => ⟨n - (i + 1), by omega, rfl, hlt, p'⟩, fun x H' y => ?_⟩
    obtain ⟨e, y⟩ := y
    subst e y
    exact hs i σ _ hlt p
  · have e : i = n := by omega
    subst e
    exact .inl ⟨Nat.le_refl _, hd σ H p⟩
end L2

namespace L2
open PySem PySem.Spec PyProof.Rows

abbrev R2 := V → V → Hp → VK → Prop
/-- a two-place operation on values: f is binaryOp op, inplaceOp op or compareOp op -/
def OpR (X : Cx) (f : Value → Value → Sem Value) (r : R2) : Prop :=
  ∀ (pins : List (Addr × Obj)) (s : Shared) (σ : St) (H : Hp) (x y : V) (v u : Value) (Q : VK), Inv X pins σ H s → RelV x v → RelV y u → r x y H Q →
    wpAny (model X.prog X.w) X.A (f v u) (EP X pins σ Q) X.xe s
/-- a call of a value that is known (a builtin, a type) with values -/
def CallR (X : Cx) (f : Value) (r : List V → Hp → VK → Prop) : Prop :=
  ∀ (pins : List (Addr × Obj)) (s : Shared) (σ : St) (H : Hp) (xs : List V) (us : List Value) (Q : VK), Inv X pins σ H s → Vals xs us → r xs H Q →
    wpAny (model X.prog X.w) X.A (call f us) (EP X pins σ Q) X.xe s
def tOp (r : R2) (ta tb : TE) : TE := fun σ H Q => ta σ H fun x H1 => tb σ H1 fun y H2 => r x y H2 Q
def tUn (r : V → Hp → VK → Prop) (ta : TE) : TE := fun σ H Q => ta σ H fun x H1 => r x H1 Q
/-- ints in, under C, and a value out -/
def rI (C : Int → Int → Prop) (g : Int → Int → V) : R2 := fun x y H Q => ∃ i j, x = .int i ∧ y = .int j ∧ C i j ∧ Q (g i j) H
def rI0 (g : Int → Int → V) : R2 := fun x y H Q => ∃ i j, x = .int i ∧ y = .int j ∧ Q (g i j) H
def rU (g : Int → V) : V → Hp → VK → Prop := fun x H Q => ∃ i, x = .int i ∧ Q (g i) H

section
variable {X : Cx} {a b c : Expr} {ta tb tc : TE} {pos : Pos}

theorem binT (ha : PE X a ta) (hb : PE X b tb) {pins : List (Addr × Obj)} {s : Shared} {σ : St} {H : Hp} {R : V → V → Hp → Prop} (I : Inv X pins σ H s)
    (h : ta σ H fun x H1 => tb σ H1 fun y H2 => R x y H2) {Q : Value → Shared → Prop} {f : Value → Value → Sem Value}
    (hf : ∀ v u s2 x y H2, Inv X pins σ H2 s2 → RelV x v → RelV y u → R x y H2 → wpAny (model X.prog X.w) X.A (f v u) Q X.xe s2) :
    wpAny (model X.prog X.w) X.A (eval a X.env) (fun v s₁ => wpAny (model X.prog X.w) X.A (eval b X.env) (fun u s₂ => wpAny (model X.prog X.w) X.A (f v u) Q X.xe s₂) X.xe s₁) X.xe s := by
  refine thn (ha pins s σ H _ I h) fun v s1 ⟨x, H1, I1, r1, q1⟩ => ?_
  refine thn (hb pins s1 σ H1 _ I1 q1) fun u s2 ⟨y, H2, I2, r2, q2⟩ => ?_
  exact hf v u s2 x y H2 I2 r1 r2 q2

theorem pe_op {op : Operator} {r : R2} (ho : OpR X (binaryOp op) r) (ha : PE X a ta) (hb : PE X b tb) : PE X (.BinOp a op b pos) (tOp r ta tb) := by
  intro pins s σ H Q I h
  exact wpAny_BinOp (binT ha hb I h fun v u s2 x y H2 I2 rx ry q => ho pins s2 σ H2 x y v u Q I2 rx ry q)
/-! ### ints -/
theorem opI {f : Value → Value → Sem Value} {C : Int → Int → Prop} {g : Int → Int → Int}
    (rule : ∀ (i j : Int) (t u : Tok) (s : Shared) (Q : Value → Shared → Prop) (E : Value → Shared → Prop), C i j → Q (.int (g i j) s.toks) { s with toks := s.toks + 1 } → wpAny (model X.prog X.w) X.A (f (.int i t) (.int j u)) Q E s) :
    OpR X f (rI C fun i j => .int (g i j)) := by
  intro pins s σ H x y v u Q I rx ry h
  obtain ⟨i, j, rfl, rfl, hc, q⟩ := h
  obtain ⟨t, rfl⟩ := rx
  obtain ⟨t', rfl⟩ := ry
  exact rule i j t t' s _ _ hc ⟨.int (g i j), H, I.tok _, ⟨_, rfl⟩, q⟩
theorem opI0 {f : Value → Value → Sem Value} {g : Int → Int → Int}
    (rule : ∀ (i j : Int) (t u : Tok) (s : Shared) (Q : Value → Shared → Prop) (E : Value → Shared → Prop), Q (.int (g i j) s.toks) { s with toks := s.toks + 1 } → wpAny (model X.prog X.w) X.A (f (.int i t) (.int j u)) Q E s) :
    OpR X f (rI0 fun i j => .int (g i j)) := by
  intro pins s σ H x y v u Q I rx ry h
  obtain ⟨i, j, rfl, rfl, q⟩ := h
  obtain ⟨t, rfl⟩ := rx
  obtain ⟨t', rfl⟩ := ry
  exact rule i j t t' s _ _ ⟨.int (g i j), H, I.tok _, ⟨_, rfl⟩, q⟩
theorem opB0 {f : Value → Value → Sem Value} {g : Int → Int → Bool}
    (rule : ∀ (i j : Int) (t u : Tok) (s : Shared) (Q : Value → Shared → Prop) (E : Value → Shared → Prop), Q (.bool (g i j)) s → wpAny (model X.prog X.w) X.A (f (.int i t) (.int j u)) Q E s) :
    OpR X f (rI0 fun i j => .bl (g i j)) := by
  intro pins s σ H x y v u Q I rx ry h
  obtain ⟨i, j, rfl, rfl, q⟩ := h
  obtain ⟨t, rfl⟩ := rx
  obtain ⟨t', rfl⟩ := ry
  exact rule i j t t' s _ _ ⟨.bl (g i j), H, I, rfl, q⟩

def CPow (i j : Int) : Prop := 0 ≤ j ∧ j ≤ 1000000 ∧ i.natAbs < 2 ^ 64
def CMul (i j : Int) : Prop := (-(2 ^ 64) < i ∧ i < 2 ^ 64) ∨ (-(2 ^ 64) < j ∧ j < 2 ^ 64)
theorem CMul.ok {i j : Int} (h : CMul i j) : IntMulOk i j := by
  rcases h with ⟨h1, h2⟩ | ⟨h1, h2⟩
  · exact .of_left (intBits_le_64 h1 h2)
  · exact .of_right (intBits_le_64 h1 h2)
theorem op_add : OpR X (binaryOp .Add) (rI0 fun i j => .int (i + j)) := opI0 fun _ _ _ _ _ _ _ q => add_int q
theorem op_sub : OpR X (binaryOp .Sub) (rI0 fun i j => .int (i - j)) := opI0 fun _ _ _ _ _ _ _ q => sub_int q
/-- % by a positive divisor of any size -/
theorem op_mod : OpR X (binaryOp .Mod) (rI (fun _ j => 0 < j) fun i j => .int (i % j)) := opI fun i j _ _ _ _ _ hc q => by
  have h1 : (0 : Int) < j := hc
  exact mod_int' (by omega) (by rw [Int.fmod_eq_emod_of_nonneg i (by omega)]; exact q)
theorem op_pow : OpR X (binaryOp .Pow) (rI CPow fun i j => .int (i ^ j.toNat)) := opI fun _ _ _ _ _ _ _ hc q => pow_int_small hc.1 hc.2.1 hc.2.2 q
/-! ### bools among ints: n += (a < b) -/
end

/-! ### comparisons -/
/-- the scalars that == tells apart as data does -/
def scal : V → V → Bool
  | .non, .non => true | .non, .int _ => true | .int _, .non => true | .non, .bl _ => true | .bl _, .non => true | .non, .str _ => true | .str _, .non => true
  | .int _, .int _ => true | .bl _, .bl _ => true | .str _, .str _ => true | .byt _, .byt _ => true
  | .int _, .str _ => true | .str _, .int _ => true | .bl _, .str _ => true | .str _, .bl _ => true
  | _, _ => false
def rEq : R2 := fun x y H Q => scal x y = true ∧ Q (.bl (decide (x = y))) H
def rNe : R2 := fun x y H Q => scal x y = true ∧ Q (.bl (!decide (x = y))) H

theorem dec_int {i j : Int} : decide (V.int i = V.int j) = (i == j) := by
  rw [Bool.eq_iff_iff]
  simp
theorem dec_bl {i j : Bool} : decide (V.bl i = V.bl j) = (i == j) := by
  rw [Bool.eq_iff_iff]
  simp
theorem dec_str {i j : Str} : decide (V.str i = V.str j) = (i == j) := by
  rw [Bool.eq_iff_iff]
  simp
theorem dec_byt {i j : Array UInt8} : decide (V.byt i = V.byt j) = (i.toList == j.toList) := by
  rw [Bool.eq_iff_iff]
  cases i
  cases j
  simp

section
variable {X : Cx} {a b c : Expr} {ta tb tc : TE} {pos : Pos}
theorem fin_bl {pins : List (Addr × Obj)} {σ : St} {H : Hp} {s : Shared} {Q : VK} {k k' : Bool} (I : Inv X pins σ H s) (q : Q (.bl k) H) (e : k = k') : EP X pins σ Q (.bool k') s := by
  subst e
  exact ⟨.bl k, H, I, rfl, q⟩
theorem op_eq : OpR X (compareOp .Eq) rEq := by
  intro pins s σ H x y v u Q I rx ry h
  obtain ⟨hs, q⟩ := h
  cases x with
  | non =>
    cases rx
    cases y with
    | non => cases ry; exact PySem.EqNone.eq_none_none (fin_bl I q (by simp))
    | bl j => cases ry; exact PySem.EqNone.eq_none_bool (fin_bl I q (by simp))
    | int j => obtain ⟨t', rfl⟩ := ry; exact PySem.EqNone.eq_none_int (fin_bl I q (by simp))
    | str j => obtain ⟨t', rfl⟩ := ry; exact PySem.EqNone.eq_none_str (fin_bl I q (by simp))
    | _ => exact absurd (show false = true from hs) Bool.false_ne_true
  | bl i =>
    cases rx
    cases y with
    | non => cases ry; exact PySem.EqNone.eq_bool_none (fin_bl I q (by simp))
    | bl j => cases ry; exact eq_bool (fin_bl I q dec_bl)
    | str j => obtain ⟨t', rfl⟩ := ry; exact PySem.EqMixed.eq_bool_str (fin_bl I q (by simp))
    | _ => exact absurd (show false = true from hs) Bool.false_ne_true
  | int i =>
    obtain ⟨t, rfl⟩ := rx
    cases y with
    | non => cases ry; exact PySem.EqNone.eq_int_none (fin_bl I q (by simp))
    | int j => obtain ⟨t', rfl⟩ := ry; exact eq_int (fin_bl I q dec_int)
    | str j => obtain ⟨t', rfl⟩ := ry; exact PySem.EqMixed.eq_int_str (fin_bl I q (by simp))
    | _ => exact absurd (show false = true from hs) Bool.false_ne_true
  | str i =>
    obtain ⟨t, rfl⟩ := rx
    cases y with
    | non => cases ry; exact PySem.EqNone.eq_str_none (fin_bl I q (by simp))
    | bl j => cases ry; exact PySem.EqMixed.eq_str_bool (fin_bl I q (by simp))
    | int j => obtain ⟨t', rfl⟩ := ry; exact PySem.EqMixed.eq_str_int (fin_bl I q (by simp))
    | str j => obtain ⟨t', rfl⟩ := ry; exact eq_str (fin_bl I q dec_str)
    | _ => exact absurd (show false = true from hs) Bool.false_ne_true
  | byt i =>
    obtain ⟨t, rfl⟩ := rx
    cases y with
    | byt j => obtain ⟨t', rfl⟩ := ry; exact PySem.W.eq_bytes (fin_bl I q dec_byt)
    | _ => exact absurd (show false = true from hs) Bool.false_ne_true
  | _ => cases y <;> exact absurd (show false = true from hs) Bool.false_ne_true
theorem op_ne : OpR X (compareOp .NotEq) rNe := by
  intro pins s σ H x y v u Q I rx ry h
  obtain ⟨hs, q⟩ := h
  cases x with
  | non =>
    cases rx
    cases y with
    | non => cases ry; exact PySem.EqNone.ne_none_none (fin_bl I q (by simp))
    | bl j => cases ry; exact PySem.EqNone.ne_none_bool (fin_bl I q (by simp))
    | int j => obtain ⟨t', rfl⟩ := ry; exact PySem.EqNone.ne_none_int (fin_bl I q (by simp))
    | str j => obtain ⟨t', rfl⟩ := ry; exact PySem.EqNone.ne_none_str (fin_bl I q (by simp))
    | _ => exact absurd (show false = true from hs) Bool.false_ne_true
  | bl i =>
    cases rx
    cases y with
    | non => cases ry; exact PySem.EqNone.ne_bool_none (fin_bl I q (by simp))
    | bl j => cases ry; exact ne_bool (fin_bl I q (congrArg not dec_bl))
    | str j => obtain ⟨t', rfl⟩ := ry; exact PySem.EqMixed.ne_bool_str (fin_bl I q (by simp))
    | _ => exact absurd (show false = true from hs) Bool.false_ne_true
  | int i =>
    obtain ⟨t, rfl⟩ := rx
    cases y with
    | non => cases ry; exact PySem.EqNone.ne_int_none (fin_bl I q (by simp))
    | int j => obtain ⟨t', rfl⟩ := ry; exact ne_int (fin_bl I q (congrArg not dec_int))
    | str j => obtain ⟨t', rfl⟩ := ry; exact PySem.EqMixed.ne_int_str (fin_bl I q (by simp))
    | _ => exact absurd (show false = true from hs) Bool.false_ne_true
  | str i =>
    obtain ⟨t, rfl⟩ := rx
    cases y with
    | non => cases ry; exact PySem.EqNone.ne_str_none (fin_bl I q (by simp))
    | bl j => cases ry; exact PySem.EqMixed.ne_str_bool (fin_bl I q (by simp))
    | int j => obtain ⟨t', rfl⟩ := ry; exact PySem.EqMixed.ne_str_int (fin_bl I q (by simp))
    | str j => obtain ⟨t', rfl⟩ := ry; exact ne_str (fin_bl I q (congrArg not dec_str))
    | _ => exact absurd (show false = true from hs) Bool.false_ne_true
  | byt i =>
    obtain ⟨t, rfl⟩ := rx
    cases y with
    | byt j => obtain ⟨t', rfl⟩ := ry; exact PySem.W.ne_bytes (fin_bl I q (congrArg not dec_byt))
    | _ => exact absurd (show false = true from hs) Bool.false_ne_true
  | _ => cases y <;> exact absurd (show false = true from hs) Bool.false_ne_true

theorem op_lt : OpR X (compareOp .Lt) (rI0 fun i j => .bl (decide (i < j))) := opB0 fun _ _ _ _ _ _ _ q => lt_int q
theorem op_le : OpR X (compareOp .LtE) (rI0 fun i j => .bl (decide (i ≤ j))) := opB0 fun _ _ _ _ _ _ _ q => le_int q
theorem op_gt : OpR X (compareOp .Gt) (rI0 fun i j => .bl (decide (j < i))) := opB0 fun _ _ _ _ _ _ _ q => gt_int q
theorem op_ge : OpR X (compareOp .GtE) (rI0 fun i j => .bl (decide (j ≤ i))) := opB0 fun _ _ _ _ _ _ _ q => ge_int q
theorem nomark (b : Expr) {op : CmpOp} (h : op ≠ .In := by decide) (h2 : op ≠ .NotIn := by decide) : behindInMarks op b = false := by
  have e1 : (op == CmpOp.In) = false := by cases op <;> first | rfl | exact absurd rfl h
  have e2 : (op == CmpOp.NotIn) = false := by cases op <;> first | rfl | exact absurd rfl h2
  cases b <;> simp [behindInMarks, e1, e2]
/-- a comparison as a value; hm: nomark b, or (for in, not in) by with_unfolding_all rfl -/
theorem pe_cmpR {op : CmpOp} {r : R2} (ho : OpR X (compareOp op) r) (ha : PE X a ta) (hb : PE X b tb) (hm : behindInMarks op b = false) : PE X (.Compare a [op] [b] pos) (tOp r ta tb) := by
  intro pins s σ H Q I h
  exact wpAny_Compare1 (binT ha hb I h fun v u s2 x y H2 I2 rx ry q => ho pins s2 σ H2 x y v u Q I2 rx ry q) hm
/-- a reading of a value as a test -/
def tTest (t : TE) : TT := fun σ H Q => t σ H fun x H' => ∃ k, x = .bl k ∧ Q k H'
theorem pt_cmpR {op : CmpOp} {r : R2} (ho : OpR X (compareOp op) r) (ha : PE X a ta) (hb : PE X b tb) (hm : behindInMarks op b = false) : PT X (.Compare a [op] [b] pos) (tTest (tOp r ta tb)) := by
  intro pins s σ H Q I h
  refine wpAny_isTrue_Compare1 (thn (ha pins s σ H _ I h) fun v s1 ⟨x, H1, I1, r1, q1⟩ => thn (hb pins s1 σ H1 _ I1 q1) fun u s2 ⟨y, H2, I2, r2, q2⟩ =>
    thn (ho pins s2 σ H2 x y v u _ I2 r1 r2 q2) fun c s3 ⟨z, H3, I3, r3, k, e, q3⟩ => ?_) hm
  subst e
  cases r3
  exact wpAny_truthy_bool ⟨H3, I3, q3⟩
/-- a op1 b op2 c -/
def tChain (r r' : R2) (ta tb tc : TE) : TE := fun σ H Q => ta σ H fun x H1 => tb σ H1 fun y H2 => r x y H2 fun z H3 => ∃ k, z = .bl k ∧
  (if k = true then tc σ H3 fun w' H4 => r' y w' H4 Q else Q (.bl false) H3)
/-! ### truth -/
theorem line63 : (sizeLine : Nat) < 2 ^ 63 := by rw [sizeLine_eq]; decide
/-! ### strs and bytes -/
/-! ### scalar builtins, by CallR -/
theorem vals1 {x : V} {us : List Value} (r : Vals [x] us) : ∃ u, us = [u] ∧ RelV x u := by
  cases r with
  | cons r1 r2 => cases r2; exact ⟨_, rfl, r1⟩
end
end L2

namespace L2
open PySem PySem.Spec PyProof.Rows

/-! ### an instance, its attributes a map -/
structure ObjM (h : Heap) (x dx C : Addr) (mA : Str → Option Value) : Prop where
  obj : h.get? x = some (PySem.W.instObj C dx)
  ns : h.Ns1 dx mA
  ne : dx ≠ x

theorem lookIn_ns {h : Heap} {dx : Addr} {mA : Str → Option Value} (n : h.Ns1 dx mA) : ∃ od, h.get? dx = some od ∧ ∀ name, PySem.W.lookIn name od = some (mA name) := by
  obtain ⟨o, es, ep, ho, hd, hk, _, hm⟩ := n
  refine ⟨o, ho, fun name => ?_⟩
  have e := hm name
  unfold nsFind findBy at e
  rw [← Array.find?_toList] at e
  unfold PySem.W.lookIn
  rw [hd]
  dsimp only
  split
  · rename_i y q
    rw [q] at e
    exact congrArg some e
  · rename_i q
    rw [q] at e
    have a : es.toList.any (·.refKey) = false := by
      rw [List.any_eq_false]
      intro y hy
      obtain ⟨z, t, hkey⟩ := hk y (Array.mem_toList_iff.mp hy)
      simp [DictEntry.refKey, hkey]
    have a' : ¬ es.toList.any (·.refKey) = true := by rw [a]; exact Bool.false_ne_true
    rw [if_neg a']
    exact congrArg some e

theorem ObjM.look {h : Heap} {x dx C : Addr} {mA : Str → Option Value} (I : ObjM h x dx C mA) : ∃ od, PySem.W.InstAt h x (PySem.W.instObj C dx) C (some od) ∧ ∀ name, PySem.W.lookIn name od = some (mA name) :=
  let ⟨od, ho, hl⟩ := lookIn_ns I.ns
  ⟨od, ⟨I.obj, rfl, rfl, ho⟩, hl⟩

section
variable {prog : Program} {w : World} {A : Around} {E : Value → Shared → Prop} {s : Shared} {K : PySem.W.Frag} {x dx C f : Addr} {mA : Str → Option Value} {name : Str} {v : Value}

end

/-! ### the attributes as a list of pairs -/
section
variable {P : Program} {w : World} {H H' : Hp} {h h' : Heap} {a C dx : Addr} {fs fs' : List (Str × V)}
theorem ins_get (hok : HOk P w H h) (e : H a = some (.ins C dx fs)) : ∃ mA, ObjM h a dx C mA ∧ (∀ f, RelO (fs.lookup f) (mA f)) ∧ PySem.Within mA (fs.map (·.1)) ∧ fs.length ≤ 1000 ∧ H dx = some (.own a) := by
  obtain ⟨d, z, ne, ob, mA, n, r, q⟩ := (show ObjOk P w H h a (.ins C dx fs) from hok a _ e)
  exact ⟨mA, ⟨ob, n, ne⟩, r, q, z, d⟩
end

/-! ### what of the text a class must have -/
structure Cls (K : PySem.W.Frag) (C : Addr) : Prop where
  pg : PySem.W.plainGet K C Str.empty = true
  hd : PySem.W.hasDictIn K C = true
  po : PySem.W.plainOver K C = true
  sa : PySem.W.findIn K (.ref C) "__setattr__" = some (some (.builtin "object.__setattr__"))
theorem Cls.get {K : PySem.W.Frag} {C : Addr} (c : Cls K C) (f : Str) : PySem.W.plainGet K C f = true := c.pg
/-- a constant of the class -/
structure Con (K : PySem.W.Frag) (C : Addr) (f : Str) (v : V) (u : Value) : Prop where
  at_ : PySem.W.findIn K (.ref C) f = some (some u)
  rel : RelV v u
  get : PySem.W.specialIn K u "__get__" = some none
  cp : PySem.W.copiedNames.contains f = false
/-- a method: a plain def of the class or of one above it -/
structure Meth (K : PySem.W.Frag) (C : Addr) (m : Str) (f : Addr) : Prop where
  at_ : PySem.W.findIn K (.ref C) m = some (some (.ref f))
  fn : PySem.W.isFn K (.ref f) = true
  kp : PySem.W.keepIn K (.ref f) = true

section
variable {X : Cx} {pins : List (Addr × Obj)} {σ : St} {H : Hp} {s : Shared} {a C dx : Addr} {fs : List (Str × V)} {f : Str} {v : V} {A : Around} {E : Value → Shared → Prop}

end

/-! ### readings and rules -/
section
variable {X : Cx} {o e value : Expr} {f : Str} {pos pos' tpos : Pos} {ta tv : TE}
end

/-! ### isinstance -/
section
variable {X : Cx} {pins : List (Addr × Obj)} {σ : St} {H : Hp} {s : Shared} {A : Around} {E : Value → Shared → Prop} {Q : Value → Shared → Prop} {c : Value} {b : Bool}
/-- the type of a value, as the fragment's deciders take it; for an instance its class -/
inductive TyOf (K : PySem.W.Frag) (H : Hp) : V → Value → Prop where
  | non : TyOf K H .non (.type "NoneType")
  | bl (x : Bool) : TyOf K H (.bl x) (.type "bool")
  | int (i : Int) : TyOf K H (.int i) (.type "int")
  | str (x : Str) : TyOf K H (.str x) (.type "str")
  | flt (x : UInt64) : TyOf K H (.flt x) (.type "float")
  | lst {a : Addr} {xs : List V} (e : H a = some (.lst xs)) : TyOf K H (.ref a) (.type "list")
  | frz {a : Addr} {o : Obj} {xs : List V} (e : H a = some (.frz o (.lst xs))) : TyOf K H (.ref a) (.type "list")
  | tup {a : Addr} {xs : List V} (e : H a = some (.tup xs)) : TyOf K H (.ref a) (.type "tuple")
  | dK {a : Addr} {kvs : List (Key × V)} (e : H a = some (.dK kvs)) : TyOf K H (.ref a) (.type "dict")
  | dT {a : Addr} {kvs : List (List Key × V)} (e : H a = some (.dT kvs)) : TyOf K H (.ref a) (.type "dict")
  | ins {a C dx : Addr} {fs : List (Str × V)} (e : H a = some (.ins C dx fs)) (cl : Cls K C) (ha : PySem.W.findIn K (.ref C) "__class__" = some (some (.builtin "object.__class__")))
      (hn : PySem.W.specialIn K (.builtin "object.__class__") "__get__" = some (some (.builtin "getset_descriptor.__get__"))) (htk : PySem.W.takesIn K (.builtin "object.__class__") = some true)
      (hm : PySem.W.mroIn K C (.type "object") = some true) : TyOf K H (.ref a) (.ref C)
/-- isinstance(x, c) for one class c, a built-in or an own one: kitOne's answer -/
theorem isinst_ok {x : V} {u t : Value} (I : Inv X pins σ H s) (rx : RelV x u) (ty : TyOf X.K H x t) (e : PySem.W.kitOne X.K t c = some b) (h : ∀ tk, Q (.bool b) { s with toks := tk }) :
    wpAny (model X.prog X.w) A (call (.builtin "isinstance") [u, c]) Q E s := by
  cases ty with
  | non => cases (show u = Value.none from rx); exact PySem.W.kia_one PySem.W.kitx_none I.kIn True.intro e (fun z => nomatch z) h
  | bl y => cases (show u = Value.bool y from rx); exact PySem.W.kia_one PySem.W.kitx_bool I.kIn True.intro e (fun z => nomatch z) h
  | int i => obtain ⟨t, q⟩ := (show ∃ t, u = Value.int i t from rx); cases q; exact PySem.W.kia_one PySem.W.kitx_int I.kIn True.intro e (fun z => nomatch z) h
  | str y => obtain ⟨t, q⟩ := (show ∃ t, u = Value.str y t from rx); cases q; exact PySem.W.kia_one PySem.W.kitx_str I.kIn True.intro e (fun z => nomatch z) h
  | flt y => obtain ⟨t, q⟩ := (show ∃ t, u = Value.float y t from rx); cases q; exact PySem.W.kia_one PySem.W.kitx_float I.kIn True.intro e (fun z => nomatch z) h
  | @lst a xs ea =>
    cases (show u = Value.ref a from rx)
    obtain ⟨_, _, n, _, h1⟩ := (show ObjOk X.prog X.w H s.heap a (.lst xs) from I.hok a _ ea)
    exact PySem.W.kia_one PySem.W.kitx_list I.kIn ⟨_, h1, rfl⟩ e (fun z => nomatch z) h
  | @frz a ob xs ea =>
    cases (show u = Value.ref a from rx)
    obtain ⟨_, _, _, n, _, h1⟩ := (show ObjOk X.prog X.w H s.heap a (.frz ob (.lst xs)) from I.hok a _ ea)
    exact PySem.W.kia_one PySem.W.kitx_list I.kIn ⟨_, h1, rfl⟩ e (fun z => nomatch z) h
  | @tup a xs ea =>
    cases (show u = Value.ref a from rx)
    obtain ⟨_, _, _, p⟩ := (show ObjOk X.prog X.w H s.heap a (.tup xs) from I.hok a _ ea)
    obtain ⟨o, h1, h2, _⟩ := p
    exact PySem.W.kia_one PySem.W.kitx_tuple I.kIn ⟨o, h1, h2⟩ e (fun z => nomatch z) h
  | @dK a kvs ea =>
    cases (show u = Value.ref a from rx)
    obtain ⟨_, _, vs, _, p⟩ := (show ObjOk X.prog X.w H s.heap a (.dK kvs) from I.hok a _ ea)
    obtain ⟨o, es, ep, h1, h2, _⟩ := p
    exact PySem.W.kia_one PySem.W.kitx_dict I.kIn ⟨o, h1, h2.1⟩ e (fun z => nomatch z) h
  | @dT a kvs ea =>
    cases (show u = Value.ref a from rx)
    obtain ⟨_, _, xs, _, o, es, ep, h1, h2, _⟩ := (show ObjOk X.prog X.w H s.heap a (.dT kvs) from I.hok a _ ea)
    exact PySem.W.kia_one PySem.W.kitx_dict I.kIn ⟨o, h1, h2.1⟩ e (fun z => nomatch z) h
  | @ins a C dx fs ea cl ha hn htk hm =>
    cases (show u = Value.ref a from rx)
    obtain ⟨mA, O, _⟩ := ins_get I.hok ea
    obtain ⟨od, J, _⟩ := O.look
    exact PySem.W.kia_one (PySem.W.kitx_own (cl.get _) cl.hd ha hn htk hm) I.kIn J e (fun z => nomatch z) h
end
end L2

namespace L2
open PySem PySem.Spec PyProof.Rows

/-! ### room -/
structure Room (k : Nat) (A : Around) : Prop where
  hd : A.handled = none
  dp : A.depth + 3 * k + 5 < recursionLimit
  un : A.units + 16 * k + 200 < cLine
theorem Room.mono {j k : Nat} {A : Around} (r : Room k A) (h : j ≤ k) : Room j A := ⟨r.hd, by have := r.dp; omega, by have := r.un; omega⟩
theorem Room.deeper {k : Nat} {A : Around} (r : Room (k + 1) A) (env : Env) : Room k (A.deeper env) :=
  ⟨r.hd, by have := r.dp; show A.depth + 1 + 3 * k + 5 < _; omega, by have := r.un; show A.units + 3 + 16 * k + 200 < _; omega⟩
theorem Room.depth {k : Nat} {A : Around} (r : Room k A) : A.depth < recursionLimit := by have := r.dp; omega
theorem Room.units {k : Nat} {A : Around} (r : Room k A) : A.units + 64 < cLine := by have := r.un; omega
/-! ### argument lists and displays -/
def tNil : TA := fun _ H Q => Q [] H
def tCons (ta : TE) (tr : TA) : TA := fun σ H Q => ta σ H fun x H1 => tr σ H1 fun xs H2 => Q (x :: xs) H2
section
variable {X : Cx} {e : Expr} {es : List Expr} {te : TE} {t : TA} {pos : Pos}
theorem pa_nil : PA X [] tNil := fun _ _ _ _ H Q I h => Calls.spliced_nil ⟨[], H, I, .nil, h⟩
theorem pa_cons (ha : PE X e te) (hr : PA X es t) (hs : starEach (e :: es) X.env = (false, eval e X.env) :: starEach es X.env := by rfl) : PA X (e :: es) (tCons te t) := by
  intro pos pins s σ H Q I h
  rw [hs]
  show wpAny _ _ (spliced ((false, eval e X.env) :: backTo pos (starEach es X.env))) _ _ s
  refine Calls.spliced_cons (thn (ha pins s σ H _ I h) fun u s1 ⟨x, H1, I1, r1, q1⟩ => ?_)
  exact thn (hr pos pins s1 σ H1 _ I1 q1) fun us s2 ⟨xs, H2, I2, r2, q2⟩ => ⟨x :: xs, H2, I2, .cons r1 r2, q2⟩

/-- a tuple, a list of written items -/
def tTup (t : TA) : TE := fun σ H Q => t σ H fun xs H1 => xs.length ≤ sizeLine ∧ ∀ p, H1 p = none → Q (.ref p) (upd H1 p (.tup xs))
def tLst (t : TA) : TE := fun σ H Q => t σ H fun xs H1 => xs.length ≤ sizeLine ∧ ∀ p, H1 p = none → Q (.ref p) (upd H1 p (.lst xs))
theorem pe_tup {x1} (h : PA X es t) : PE X (.Tuple es x1 pos) (tTup t) := by
  intro pins s σ H Q I hq
  refine wpAny_Tuple_spliced (thn (h pos pins s σ H _ I hq) fun us s1 ⟨xs, H1, I1, r, z, q⟩ => ⟨by rw [← r.length]; exact z, ?_⟩)
  have hf : H1 s1.heap.objs.size = none := I1.hok.fresh (Nat.le_refl _)
  refine ⟨.ref s1.heap.objs.size, upd H1 s1.heap.objs.size (.tup xs), I1.laid (t' := s1.toks) (fun b u e => Heap.get?_push_of_some _ e) (Nat.le_refl _) ?_, rfl, q _ hf⟩
  exact ⟨z, us, r, ⟨_, Heap.get?_push_size _ rfl, rfl, _, rfl⟩⟩
theorem pe_lst (h : PA X es t) : PE X (.List es pos) (tLst t) := by
  intro pins s σ H Q I hq
  refine wpAny_List_spliced (thn (h pos pins s σ H _ I hq) fun us s1 ⟨xs, H1, I1, r, z, q⟩ => ⟨by rw [← r.length]; exact z, ?_⟩)
  have hf : H1 s1.heap.objs.size = none := I1.hok.fresh (Nat.le_refl _)
  refine ⟨.ref s1.heap.objs.size, upd H1 s1.heap.objs.size (.lst xs), I1.laid (t' := s1.toks) (fun b u e => Heap.get?_push_of_some _ e) (Nat.le_refl _) ?_, rfl, q _ hf⟩
  exact ⟨z, us, 0, r, Heap.get?_push_size _ rfl⟩
end

/-! ### what a def promises -/
/-- a def's promise: the bound arguments in the parameters' order, the heap, the wanted end, the wanted exception -/
abbrev Sp := List V → Hp → VK → XK → Prop
/-- how an exception lies behind a call (file 08 gives it): the callers' frames, abstract heap and state ahead of the call, the wish, the exception, the state -/
abbrev CXT := List Env → Hp → Shared → XK → Value → Shared → Prop

/-- the state at a call -/
structure Env0 (P : Program) (w : World) (K : PySem.W.Frag) (mg : Str → Option Value) (base : Heap) (A : Around) (outer : List Env) (s : Shared) (H : Hp) : Prop where
  frames : A.frames = some outer
  mod : Mod K mg base
  bs : ∀ b o, base.get? b = some o → s.heap.get? b = some o ∧ H b = none
  bsz : base.objs.size ≤ s.heap.objs.size
  funs : s.heap.FunFrames base outer
  frf : ∀ b ∈ frs outer, H b = none
  hok : HOk P w H s.heap
  bare : AllBare s.gens
/-- a call's end -/
def CE (outer : List Env) (P : Program) (w : World) (H : Hp) (s : Shared) (Q : VK) (u : Value) (s' : Shared) : Prop :=
  ∃ v H', s'.os = s.os ∧ AllBare s'.gens ∧ Un (frs outer) [] H H' s.heap s'.heap ∧ HOk P w H' s'.heap ∧ RelV v u ∧ Q v H'
def CR (CX : CXT) (outer : List Env) (P : Program) (w : World) (H : Hp) (s : Shared) (Q : VK) (E : XK) (r : Result) (s' : Shared) : Prop :=
  match r with
  | .ok (.ret u) => CE outer P w H s Q u s'
  | .ok _ => False
  | .error e => CX outer H s E e s'
structure FnOk (P : Program) (w : World) (K : PySem.W.Frag) (mg : Str → Option Value) (base : Heap) (CX : CXT) (k : Nat) (f : Addr) (fd : FuncData) (ps : List Str) (sp : Sp) : Prop where
  len : ∀ vs H Q E, sp vs H Q E → vs.length = ps.length
  run : ∀ (A : Around) (outer : List Env) (s : Shared) (H : Hp) (args : Args) (us : List Value) (vs : List V) (Q : VK) (E : XK), Room k A → Env0 P w K mg base A outer s H → BindsTo s fd args (ps.zip us) → Vals vs us → sp vs H Q E →
    codeAny (model P w) A (.call (.ref f) args) (CR CX outer P w H s Q E) s
theorem FnOk.mono {P : Program} {w : World} {K : PySem.W.Frag} {mg : Str → Option Value} {base : Heap} {CX : CXT} {j k : Nat} {f : Addr} {fd : FuncData} {ps : List Str} {sp : Sp} (F : FnOk P w K mg base CX j f fd ps sp) (h : j ≤ k) :
    FnOk P w K mg base CX k f fd ps sp := ⟨F.len, fun A outer s H args us vs Q E hr => F.run A outer s H args us vs Q E (hr.mono h)⟩
/-- a weaker promise -/
theorem FnOk.imp {P : Program} {w : World} {K : PySem.W.Frag} {mg : Str → Option Value} {base : Heap} {CX : CXT} {k : Nat} {f : Addr} {fd : FuncData} {ps : List Str} {sp sp' : Sp} (F : FnOk P w K mg base CX k f fd ps sp)
    (h : ∀ vs H Q E, sp' vs H Q E → sp vs H Q E) : FnOk P w K mg base CX k f fd ps sp' :=
  ⟨fun vs H Q E q => F.len vs H Q E (h _ _ _ _ q), fun A outer s H args us vs Q E hr he hb hv hs => F.run A outer s H args us vs Q E hr he hb hv (h _ _ _ _ hs)⟩

section
variable {X : Cx} {pins : List (Addr × Obj)} {σ : St} {H : Hp} {s s' : Shared}
/-- from a body: what a callee wants -/
theorem Inv.env0 (I : Inv X pins σ H s) : Env0 X.prog X.w X.K X.mg X.base X.A X.stack s H :=
  ⟨I.ok.frames, I.ok.mod, I.bs, Nat.le_trans I.ok.bsz I.sz, I.stack, I.stkFree, I.hok, I.bare⟩
/-- behind a call -/
theorem Inv.after {Q : VK} {u : Value} (I : Inv X pins σ H s) (h : CE X.stack X.prog X.w H s Q u s') : EP X pins σ Q u s' := by
  obtain ⟨v, H', os, bare, un, hok, r, q⟩ := h
  obtain ⟨hh, g, d, t, os'⟩ := s'
  obtain rfl : os' = s.os := os
  exact ⟨v, H', I.call (h' := hh) (g' := g) (d' := d) (t' := t) (ch := []) un hok bare (fun b z => absurd z (by simp)), r, q⟩
end

/-! ### calls -/
/-- f(..): the written arguments, then the defaults dvs; E: what is wanted of an exception -/
def tCall (sp : Sp) (dvs : List V) (E : XK) (t : TA) : TE := fun σ H Q => t σ H fun vs H1 => sp (vs ++ dvs) H1 Q E
/-- how the parameters are bound: us the positional arguments, kw the keywords' values by name, ds the defaults that fill up -/
def Binds (K : PySem.W.Frag) (fd : FuncData) (ps : List Str) (ds : List Value) : Prop :=
  ∀ (s : Shared) (us : List Value), K.In s.heap → (us ++ ds).length = ps.length → BindsTo s fd ⟨us, []⟩ (ps.zip (us ++ ds))
/-- every parameter is given -/
theorem Binds.all {K : PySem.W.Frag} {fd : FuncData} {ps : List Str} (h : ∀ us : List Value, us.length = ps.length → bindArgs fd ⟨us, []⟩ = pure (ps.zip us)) : Binds K fd ps [] := fun s us _ hl => by
  rw [List.append_nil] at hl ⊢
  exact .of_eq (h us hl)

/-- an exception of a callee reaches what this body wants of exceptions -/
def Passes (CX : CXT) (X : Cx) (E : XK) : Prop := ∀ (pins : List (Addr × Obj)) (σ : St) (H : Hp) (s : Shared) (e : Value) (s' : Shared), Inv X pins σ H s → CX X.stack H s E e s' → X.xe e s'

section
variable {X : Cx} {CX : CXT} {k : Nat} {f C : Addr} {fd : FuncData} {ps : List Str} {sp : Sp} {dvs : List V} {ds : List Value} {E : XK} {x m : Str} {p pos apos : Pos} {e o : Expr} {es : List Expr} {ta : TE} {t : TA}

/-- the callee runs -/
theorem run_fn {pins : List (Addr × Obj)} {σ : St} {H : Hp} {s : Shared} {Q : VK} {us : List Value} {vs : List V} (F : FnOk X.prog X.w X.K X.mg X.base CX k f fd ps sp) (hr : Room k X.A) (hb : Binds X.K fd ps ds) (hd : Vals dvs ds) (hx : Passes CX X E)
    (I : Inv X pins σ H s) (r : Vals vs us) (h : sp (vs ++ dvs) H Q E) : wpAny (model X.prog X.w) X.A (call (.ref f) us) (EP X pins σ Q) X.xe s := by
  have r2 : Vals (vs ++ dvs) (us ++ ds) := r.append hd
  have hl : (us ++ ds).length = ps.length := by rw [← r2.length]; exact F.len _ _ _ _ h
  refine wpAny_call (codeAny_mono (F.run X.A X.stack s H ⟨us, []⟩ (us ++ ds) (vs ++ dvs) Q E hr I.env0 (hb s us I.kIn hl) r2 h) fun r s' hq => ?_)
  cases r with
  | error e => exact hx pins σ H s e s' I hq
  | ok fl =>
    cases fl with
    | ret u => exact I.after hq
    | next => exact False.elim hq
    | brk => exact False.elim hq
    | cont => exact False.elim hq

theorem pe_call (F : FnOk X.prog X.w X.K X.mg X.base CX k f fd ps sp) (hr : Room k X.A) (hg : Gl X x) (hm : X.mg x = some (.ref f)) (hk : PySem.W.keepIn X.K (.ref f) = true) (hb : Binds X.K fd ps ds) (hd : Vals dvs ds) (hx : Passes CX X E)
    (ha : PA X (e :: es) t) (hdb : (x == ("__debug__" : Str)) = false := by decide) (he : starEach (e :: es) X.env = (false, eval e X.env) :: starEach es X.env := by rfl) (hpl : (backTo pos (starEach es X.env)).any (·.1) = false := by rfl) :
    PE X (.Call (.Name x p) (e :: es) [] pos) (tCall sp dvs E t) := by
  intro pins s σ H Q I h
  refine wpAny_Call_Name_kw (ld_glob I hg hm ?_ hdb)
  refine PySem.W.callWith_K (h₀ := X.base) I.ok.mod.kin hk (thn (ha pos pins s σ H _ I h) fun us s1 ⟨vs, H1, I1, r, q⟩ => ⟨I1.kIn, ?_⟩) he hpl
  exact run_fn F hr hb hd hx I1 r q
/-- what a class must have to be made -/
structure Mk (K : PySem.W.Frag) (C f : Addr) : Prop where
  makes : PySem.W.makesIn K C = true
  init : PySem.W.findIn K (.ref C) "__init__" = some (some (.ref f))
  fn : PySem.W.isFn K (.ref f) = true
  kp : PySem.W.keepIn K (.ref C) = true

end

/-! ### keywords -/
section
variable {X : Cx} {CX : CXT} {k : Nat} {f C : Addr} {fd : FuncData} {ps ks : List Str} {sp : Sp} {E : XK} {x m : Str} {p pos apos kpos : Pos} {e o : Expr} {es : List Expr} {kws : List Keyword} {te ta : TE} {t tk : TA} {nm : Option Str}
/-- how a call with keywords binds: g puts the positional values us and the keywords' values ws (names ks) in the parameters' order, defaults among them -/
structure KBinds (K : PySem.W.Frag) (fd : FuncData) (ps ks : List Str) (g : List Value → List Value → List Value) (gV : List V → List V → List V) : Prop where
  to : ∀ (s : Shared) (us ws : List Value), K.In s.heap → (g us ws).length = ps.length → BindsTo s fd ⟨us, ks.zip ws⟩ (ps.zip (g us ws))
  rel : ∀ {vs : List V} {us : List Value} {zs : List V} {ws : List Value}, Vals vs us → Vals zs ws → Vals (gV vs zs) (g us ws)
variable {g : List Value → List Value → List Value} {gV : List V → List V → List V}
end

/-! ### a def's body keeps its promise -/
/-- names: the parameters first -/
structure FnScope (N P : List Str) (sc : Scope) : Prop where
  kind : sc.kind = .function
  co : sc.isCoroutine = false
  gen : sc.isGenerator = false
  nd : N.Nodup
  pre : N.take P.length = P
  par : ∀ x ∈ P, sc.names.lookup x = some .local ∨ sc.names.lookup x = some .cell
  nofree : ∀ y ∈ sc.names, y.2 ≠ .free

theorem bindL_out {kindOf : Str → Option NameKind} {x : Str} : ∀ {binds : List (Str × Value)} {m : Str → Option Value}, (∀ v, (x, v) ∉ binds) → bindL kindOf binds m x = m x
  | [], _, _ => rfl
  | (n, v) :: r, m, h => by
    unfold bindL
    rw [bindL_out fun w hw => h w (List.mem_cons_of_mem _ hw)]
    split
    · have : x ≠ n := by rintro rfl; exact h v List.mem_cons_self
      simp [this]
    · rfl
theorem bindC_out {kindOf : Str → Option NameKind} {x : Str} : ∀ {binds : List (Str × Value)} {m : Str → Option Value}, (∀ v, (x, v) ∉ binds) → bindC kindOf binds m x = m x
  | [], _, _ => rfl
  | (n, v) :: r, m, h => by
    unfold bindC
    rw [bindC_out fun w hw => h w (List.mem_cons_of_mem _ hw)]
    split
    · rfl
    · have : x ≠ n := by rintro rfl; exact h v List.mem_cons_self
      simp [this]
theorem bindL_get {kindOf : Str → Option NameKind} {x : Str} {v : Value} : ∀ {P : List Str} {vs : List Value} {i : Nat} {m : Str → Option Value}, P.Nodup → P[i]? = some x → vs[i]? = some v → kindOf x = some .local →
    bindL kindOf (P.zip vs) m x = some v
  | [], _, _, _, _, h, _, _ => by simp at h
  | _ :: _, [], _, _, _, _, h, _ => by simp at h
  | p :: P, w :: vs, 0, m, nd, h1, h2, hk => by
    simp at h1 h2; subst h1; subst h2
    show bindL kindOf ((p, w) :: P.zip vs) m p = _
    unfold bindL
    rw [bindL_out fun v hv => (List.nodup_cons.mp nd).1 (List.of_mem_zip hv).1, if_pos hk]
    simp
  | p :: P, w :: vs, i + 1, m, nd, h1, h2, hk => by
    show bindL kindOf ((p, w) :: P.zip vs) m x = _
    unfold bindL
    exact bindL_get (i := i) (List.nodup_cons.mp nd).2 (by simpa using h1) (by simpa using h2) hk
theorem bindC_get {kindOf : Str → Option NameKind} {x : Str} {v : Value} : ∀ {P : List Str} {vs : List Value} {i : Nat} {m : Str → Option Value}, P.Nodup → P[i]? = some x → vs[i]? = some v → kindOf x ≠ some .local →
    bindC kindOf (P.zip vs) m x = some v
  | [], _, _, _, _, h, _, _ => by simp at h
  | _ :: _, [], _, _, _, _, h, _ => by simp at h
  | p :: P, w :: vs, 0, m, nd, h1, h2, hk => by
    simp at h1 h2; subst h1; subst h2
    show bindC kindOf ((p, w) :: P.zip vs) m p = _
    unfold bindC
    rw [bindC_out fun v hv => (List.nodup_cons.mp nd).1 (List.of_mem_zip hv).1, if_neg hk]
    simp
  | p :: P, w :: vs, i + 1, m, nd, h1, h2, hk => by
    show bindC kindOf ((p, w) :: P.zip vs) m x = _
    unfold bindC
    exact bindC_get (i := i) (List.nodup_cons.mp nd).2 (by simpa using h1) (by simpa using h2) hk

/-- the names' values at the entry -/
def start (N : List Str) (vs : List V) : St := vs.map some ++ List.replicate (N.length - vs.length) none

/-- the context of a def's body, at its entry; an exception leaves the frame, then lies as CX says -/
def cxOf (CX : CXT) (P : Program) (w : World) (K : PySem.W.Frag) (mg : Str → Option Value) (base : Heap) (N : List Str) (qual : Str) (scope : Scope) (f : Addr) (cd : Value) (A : Around) (outer : List Env) (s : Shared) (H : Hp) (E : XK) : Cx where
  prog := P
  w := w
  K := K
  mg := mg
  base := base
  A := A.deeper (envOfC qual scope s.heap.objs.size f cd)
  N := N
  s₀ := s
  H₀ := H
  env := envOfC qual scope s.heap.objs.size f cd
  outer := outer
  stack := envOfC qual scope s.heap.objs.size f cd :: outer
  ex := []
  calm := true
  fn := fun _ => true
  pn := []
  xe := fun e s' => wpAny (model P w) (A.deeper (envOfC qual scope s.heap.objs.size f cd)) (leaving (envOfC qual scope s.heap.objs.size f cd) e) (fun _ s'' => CX outer H s E e s'') (fun e' s'' => CX outer H s E e' s'') s'

theorem cell_has {sc : Scope} {n : Nat} {x : Str} (h : sc.names.lookup x = some .cell) : ∃ c, (cellsFrom n sc.names []).lookup x = some c := by
  have q := PySem.W.cellsFrom_some sc.names n [] (.inl h)
  exact Option.isSome_iff_exists.mp q

theorem inv_start {CX : CXT} {P : Program} {w : World} {K : PySem.W.Frag} {mg : Str → Option Value} {base : Heap} {N ps : List Str} {qual : Str} {scope : Scope} {f : Addr} {cd : Value} {A : Around} {outer : List Env} {s s1 : Shared} {H : Hp} {E : XK} {us : List Value} {vs : List V}
    (S : FnScope N ps scope) (hd : A.handled = none) (e0 : Env0 P w K mg base A outer s H) (hl : vs.length = ps.length) (r : Vals vs us)
    (x : InCallC s s.heap.objs.size (bindL (envOfC qual scope s.heap.objs.size f cd).kindOf (ps.zip us) fun _ => none) (cellsFrom (s.heap.objs.size + 1) scope.names []) (bindC (envOfC qual scope s.heap.objs.size f cd).kindOf (ps.zip us) fun _ => none) s1) :
    Inv (cxOf CX P w K mg base N qual scope f cd A outer s H E) [] (start N vs) H s1 := by
  have hpl : ps.length ≤ N.length := by have := congrArg List.length S.pre; rw [List.length_take] at this; omega
  obtain ⟨h1, tk, rfl, hk⟩ := x.done
  have noA : ∀ b : Addr, b ∉ (cxOf CX P w K mg base N qual scope f cd A outer s H E).ex := fun b z => absurd (show b ∈ ([] : List Addr) from z) (by simp)
  refine ⟨⟨e0.mod, S.kind, rfl, rfl, Nat.le_refl _, fun y z c h1 h2 => ?_, fun y hy => ?_, fun y c _ h => ?_, fun _ => hd, Around.frames_deeper e0.frames, .inr ⟨rfl, rfl⟩, fun b z => absurd z (noA b), e0.bs, e0.bsz, fun b _ _ => noA b, fun b z => absurd z (noA b), e0.funs, e0.frf⟩,
    rfl, e0.bare, Un.kept hk, ⟨_, x.toInCall.ns, fun i y v h1 h2 h3 => ?_⟩, fun y c h => ⟨_, x.cell y c h⟩, e0.hok.fresh (Nat.le_refl _), fun y c h => ?_, fun p hp => absurd (show p ∈ ([] : List (Addr × Obj)) from hp) (by simp), e0.hok.kept hk, ?_⟩
  · exact name_of_addr x.apart (PySem.mem_of_lookup h1) (PySem.mem_of_lookup h2)
  · have hy : scope.names.lookup y = some .cell ∨ scope.names.lookup y = some .free := hy
    rcases hy with hy | hy
    · exact cell_has hy
    · exact absurd rfl (S.nofree _ (PySem.mem_of_lookup hy))
  · exact Nat.le_of_lt (x.above y c (PySem.mem_of_lookup h))
  · have hi : i < vs.length := by
      unfold start at h2
      by_cases hi : i < vs.length
      · exact hi
      · rw [List.getElem?_append_right (by simpa using hi)] at h2
        rw [List.getElem?_replicate] at h2
        split at h2 <;> cases h2
    have ha : vs[i]? = some v := by
      unfold start at h2
      rw [List.getElem?_append_left (by simpa using hi), List.getElem?_map] at h2
      cases e : vs[i]? with
      | none => rw [e] at h2; cases h2
      | some a => rw [e] at h2; cases h2; rfl
    obtain ⟨u, hu, rv⟩ := r.get ha
    have hp : ps[i]? = some y := by
      rw [← S.pre, List.getElem?_take_of_lt (by omega)]; exact h1
    have ndP : ps.Nodup := by rw [← S.pre]; exact S.nd.sublist (List.take_sublist _ _)
    refine ⟨u, rv, ?_⟩
    rcases S.par y (List.mem_of_getElem? hp) with k | k
    · exact .inl ⟨k, bindL_get ndP hp hu k⟩
    · obtain ⟨c, e⟩ := cell_has (n := s.heap.objs.size + 1) k
      refine .inr ⟨.inl k, c, e, ?_⟩
      have q := x.cell y c e
      rw [bindC_get ndP hp hu (by show scope.names.lookup y ≠ _; rw [k]; decide)] at q
      exact q
  · exact e0.hok.fresh (Nat.le_of_lt (x.above y c (PySem.mem_of_lookup h)))
  · unfold start
    show _ = N.length
    rw [List.length_append, List.length_map, List.length_replicate]
    omega

/-- THE RULE: a def (or a method) of the text, by its body. The body's reading t is chosen for each entry; it is run at the parameters' values -/
theorem fn_of {CX : CXT} {P : Program} {w : World} {K : PySem.W.Frag} {mg : Str → Option Value} {base : Heap} {k : Nat} {f : Addr} {name qual : Str} {params : Arguments} {body : List Stmt} {scope : Scope} {dV kV doc pm cdv ct oc : Value} {an od : Option Addr}
    {osl : Array (Option Value)} {N ps : List Str} {sp : Sp} (lk : K.lookup f = some ⟨oc, od, .func (PySem.W.fnOf name qual params body scope dV kV doc pm an cdv ct), osl⟩) (hcd : PySem.W.codeIn K cdv qual = true) (S : FnScope N ps scope)
    (len : ∀ vs H Q E, sp vs H Q E → vs.length = ps.length)
    (hbody : ∀ (A : Around) (outer : List Env) (s : Shared) (H : Hp) (vs : List V) (Q : VK) (E : XK), Room k (A.deeper (envOfC qual scope s.heap.objs.size f cdv)) → sp vs H Q E →
      ∃ t, PSs (cxOf CX P w K mg base N qual scope f cdv A outer s H E) body t ∧ t { nx := fun _ H' => Q .non H', rt := Q } (start N vs) H) :
    FnOk P w K mg base CX (k + 1) f (PySem.W.fnOf name qual params body scope dV kV doc pm an cdv ct) ps sp := by
  refine ⟨len, fun A outer s H args us vs Q E hr e0 hb r hsp => ?_⟩
  have hl := len _ _ _ _ hsp
  have KX : K.In s.heap := e0.mod.kin.keeps fun b o e => (e0.bs b o e).1
  have lim : s.heap.NoLimit := e0.mod.nolimit.keeps fun b o e => (e0.bs b o e).1
  have hkind : ∀ y ∈ ps.zip us, scope.names.lookup y.1 = some .local ∨ (scope.names.lookup y.1 = some .cell ∧ ((cellsFrom (s.heap.objs.size + 1) scope.names []).lookup y.1).isSome = true) := fun ⟨n, v⟩ hy => by
    rcases S.par n (List.of_mem_zip hy).1 with q | q
    · exact .inl q
    · exact .inr ⟨q, PySem.W.cellsFrom_some _ _ _ (.inl q)⟩
  refine codeAny_call_function hr.depth (KX _ _ lk) rfl S.co S.gen rfl (PySem.W.codeRec_of KX hcd) (hb _ _ _ _ ?_)
  refine wpAny_newFunctionEnv_cells S.kind hkind fun env he s1 x => ?_
  subst he
  refine ⟨lim.keeps x.toInCall.keep, codeAny_func ?_⟩
  obtain ⟨t, ht, hq⟩ := hbody A outer s H vs Q E (hr.deeper _) hsp
  have I : Inv (cxOf CX P w K mg base N qual scope f cdv A outer s H E) [] (start N vs) H s1 := inv_start S hr.hd e0 hl r x
  refine wpAny_mono (ht [] s1 (start N vs) H _ I hq) (fun fl s' hs => ?_) fun e s' hs => hs
  have fin : ∀ {σ' : St} {H' : Hp} {v : V} {u : Value}, Inv (cxOf CX P w K mg base N qual scope f cdv A outer s H E) [] σ' H' s' → RelV v u → Q v H' → CE outer P w H s Q u s' :=
    fun {σ' H' v u} J rv q => ⟨v, H', J.os, J.bare, J.base, J.hok, rv, q⟩
  cases fl with
  | ret u =>
    obtain ⟨v, σ', H', J, rv, q⟩ := hs
    exact fin J rv q
  | next =>
    obtain ⟨σ', H', J, q⟩ := hs
    exact fin (v := V.non) (u := Value.none) J rfl q
  | brk =>
    obtain ⟨_, _, _, q⟩ := hs
    exact False.elim q
  | cont =>
    obtain ⟨_, _, _, q⟩ := hs
    exact False.elim q
end L2

namespace L2
open PySem PySem.Spec PyProof.Rows
section
variable {X : Cx} {x : Str} {p pos : Pos} {e : Expr} {es : List Expr} {t : TA} {id T : String} {r : List V → Hp → VK → Prop}

def tCB (r : List V → Hp → VK → Prop) (t : TA) : TE := fun σ H Q => t σ H fun vs H1 => r vs H1 Q
/-- f(e, ..), f a built-in function -/
theorem pe_callB (hc : CallR X (.builtin id) r) (hg : Gl X x) (hm : X.mg x = none) (hv : bootBuiltins x = some (.builtin id)) (ha : PA X (e :: es) t) (hn : x ≠ "__name__" := by decide) (hdb : (x == ("__debug__" : Str)) = false := by decide)
    (he : starEach (e :: es) X.env = (false, eval e X.env) :: starEach es X.env := by rfl) (hpl : (backTo pos (starEach es X.env)).any (·.1) = false := by rfl) : PE X (.Call (.Name x p) (e :: es) [] pos) (tCB r t) := by
  intro pins s σ H Q I h
  refine wpAny_Call_Name_kw (ld_blt I hg hm hv ?_ hn hdb)
  exact PyProof.Rows.callWith_builtin1 (thn (ha pos pins s σ H _ I h) fun us s1 ⟨vs, H1, I1, r1, q1⟩ => hc pins s1 σ H1 vs us Q I1 r1 q1) he hpl
end
end L2

namespace HT
open PySem PyProof.Rows

section
open PySem.SeqAt
open PySem.AutoSeq1 (wpAny_loadPart')
open PySem.MeetsSeq PySem.MeetsSeq2 PySem.MeetsSeq3

end

section
variable {prog : Program} {w : World} {A : Around} {E : Value → Shared → Prop} {s : Shared}

/-! ### t[a:b], not the whole -/
end
end HT

namespace L2
open PySem PySem.Spec PyProof.Rows

/-! ### the parts of a slice -/
abbrev TO := St → Hp → (Option Int → Hp → Prop) → Prop
def tNoPart : TO := fun _ H Q => Q none H
def tPart (t : TE) : TO := fun σ H Q => t σ H fun x H1 => ∃ i, x = .int i ∧ Q (some i) H1

section
variable {X : Cx} {e : Expr} {te : TE} {lo hi : Option Expr} {tl th : TO} {pos p2 : Pos}

def tSl (r : V → Option Int → Option Int → Hp → VK → Prop) (te : TE) (tl th : TO) : TE := fun σ H Q => te σ H fun x H1 => tl σ H1 fun l H2 => th σ H2 fun u H3 => r x l u H3 Q
/-! ### t < u, t + u -/
end
end L2

namespace L2
open PySem PySem.Spec PyProof.Rows

/-! ### places -/
/-- the place that an index of any sign means -/
def ixN (n : Nat) (i : Int) : Option Nat := if 0 ≤ i then (if i < n then some i.toNat else none) else if -(n : Int) ≤ i then some (i + n).toNat else none
def atI {α : Type} (xs : List α) (i : Int) : Option α := (ixN xs.length i).bind fun j => xs[j]?
theorem ixN_seq {n : Nat} {i : Int} {j : Nat} (h : ixN n i = some j) : seqIndex? i n = some j ∧ j < n ∧ -(n : Int) ≤ i ∧ i < n := by
  unfold ixN at h
  by_cases h0 : 0 ≤ i
  · rw [if_pos h0] at h
    by_cases h1 : i < n
    · rw [if_pos h1] at h
      have e : i.toNat = j := Option.some.inj h
      exact ⟨by rw [seqIndex_of h0 h1, e], by omega, by omega, h1⟩
    · rw [if_neg h1] at h; cases h
  · rw [if_neg h0] at h
    by_cases h1 : -(n : Int) ≤ i
    · rw [if_pos h1] at h
      have e : (i + n).toNat = j := Option.some.inj h
      exact ⟨by rw [seqIndex_neg (by omega) h1, e], by omega, h1, by omega⟩
    · rw [if_neg h1] at h; cases h
theorem atI_get {α : Type} {xs : List α} {i : Int} {v : α} (h : atI xs i = some v) : ∃ j, seqIndex? i xs.length = some j ∧ xs[j]? = some v ∧ j < xs.length ∧ -(xs.length : Int) ≤ i ∧ i < xs.length := by
  unfold atI at h
  cases e : ixN xs.length i with
  | none => rw [e] at h; cases h
  | some j =>
    rw [e] at h
    obtain ⟨h1, h2, h3, h4⟩ := ixN_seq e
    exact ⟨j, h1, h, h2, h3, h4⟩
theorem atI_nat {α : Type} {xs : List α} {j : Nat} {v : α} (h : xs[j]? = some v) : atI xs (j : Int) = some v := by
  have hj : j < xs.length := (List.getElem?_eq_some_iff.mp h).1
  have e : ixN xs.length (j : Int) = some j := by
    unfold ixN
    rw [if_pos (by omega), if_pos (by omega)]; simp
  unfold atI; rw [e]; exact h
/-! ### what may be subscripted -/
/-- what stands as an index of a plain subscript -/
def PlainIx (b : Expr) : Prop := ∀ o i, subscripted b false o i = operate [o, i] (getItem o i)
/-- a subscript by values -/
def IxR (X : Cx) (r : R2) : Prop :=
  ∀ (value slice : Expr) (pins : List (Addr × Obj)) (s : Shared) (σ : St) (H : Hp) (x y : V) (v u : Value) (Q : VK), Inv X pins σ H s → RelV x v → RelV y u → r x y H Q →
    subscripted slice false v u = operate [v, u] (getItem v u) → wpAny (model X.prog X.w) X.A (subscriptTail value slice v u) (EP X pins σ Q) X.xe s
/-- a call of a builtin's method by values: the receiver, the arguments -/
def MtR (X : Cx) (id : String) (r : V → List V → Hp → VK → Prop) : Prop :=
  ∀ (pins : List (Addr × Obj)) (s : Shared) (σ : St) (H : Hp) (x : V) (xs : List V) (v : Value) (us : List Value) (Q : VK), Inv X pins σ H s → RelV x v → Vals xs us → r x xs H Q →
    wpAny (model X.prog X.w) X.A (call (.builtin id) (v :: us)) (EP X pins σ Q) X.xe s
section
variable {X : Cx} {a b : Expr} {ta tb : TE} {pos : Pos}
/-- a[b] -/
theorem pe_ix {r : R2} (hr : IxR X r) (ha : PE X a ta) (hb : PE X b tb) (hs : PlainIx b) : PE X (.Subscript a b pos) (tOp r ta tb) := by
  intro pins s σ H Q I h
  exact Subscript_ (binT ha hb I h fun v u s2 x y H2 I2 rx ry q => hr a b pins s2 σ H2 x y v u Q I2 rx ry q (hs _ _))

def rIxL (K : PySem.W.Frag) : R2 := fun x y H Q => ∃ p xs i v, x = .ref p ∧ y = .int i ∧ SqL K H p xs ∧ atI xs i = some v ∧ Q v H
theorem ix_list : IxR X (rIxL X.K) := by
  intro value slice pins s σ H x y v u Q I rx ry h hs
  obtain ⟨p, xs, i, z, rfl, rfl, hq, he, q⟩ := h
  cases rx
  obtain ⟨t, rfl⟩ := ry
  obtain ⟨its, r, pl, hz⟩ := I.list hq
  obtain ⟨j, h1, h2, h3, h4, h5⟩ := atI_get he
  obtain ⟨w, ew, rw'⟩ := r.get h2
  have hl := r.length
  have hn := line63
  have fin : EP X pins σ Q w s := ⟨z, H, I, rw', q⟩
  by_cases h0 : 0 ≤ i
  · have hj : i.toNat = j := by
      rw [seqIndex_of h0 h5] at h1
      exact Option.some.inj h1
    exact item_listR pl.isList h0 (by omega) (by rw [hj]; simpa using ew) fin hs
  · have hj : (i + (its.toArray.size : Int)).toNat = j := by
      rw [seqIndex_neg (by omega) h4] at h1
      rw [List.size_toArray, ← hl]
      exact Option.some.inj h1
    exact subscriptTail_builtinR (x := w) pl.isList.typeIs slot_list_getitem.lookup
      (wpAny_getItem_list_neg (Q := fun r s' => r = w ∧ EP X pins σ Q r s') pl.isList (by omega) (by rw [List.size_toArray] <;> omega) (by omega) (by rw [hj]; simpa using ew) ⟨rfl, fin⟩) hs
/-! ### xs[i] = v, any sign -/
theorem Inv.lst {pins : List (Addr × Obj)} {σ : St} {H : Hp} {s : Shared} {p : Addr} {xs : List V} (I : Inv X pins σ H s) (h : H p = some (.lst xs)) :
    ∃ (its : List Value) (n : Nat), Vals xs its ∧ s.heap.get? p = some { cls := .type "list", data := .seq its.toArray n } ∧ xs.length ≤ sizeLine := by
  obtain ⟨z, its, n, r, e⟩ := I.hok p _ h
  exact ⟨its, n, r, e, z⟩
/-! ### slices -/
/-! ### in, not in: flat items -/
/-! ### len, list(x), tuple(x) of any list or tuple that is read -/
theorem call_len_seq : CallR X (.builtin "len") (fun xs H Q => ∃ p ys, xs = [.ref p] ∧ (SqL X.K H p ys ∨ SqT X.K H p ys) ∧ Q (.int ys.length) H) := by
  intro pins s σ H xs us Q I r h
  obtain ⟨p, ys, rfl, hq, q⟩ := h
  obtain ⟨u, rfl, rx⟩ := vals1 r
  cases rx
  have hn := line63
  rcases hq with hq | hq
  · obtain ⟨its, r', pl, hz⟩ := I.list hq
    have hlen := r'.length
    exact Calls.call_len_list pl.isList (by simp only [List.size_toArray] <;> omega) ⟨.int ys.length, H, I.tok _, ⟨s.toks + 1, by rw [List.size_toArray, hlen]⟩, q⟩
  · obtain ⟨its, r', pl, hz⟩ := I.tuple hq
    have hlen := r'.length
    exact len_tuple pl (by simp only [List.size_toArray] <;> omega) ⟨.int ys.length, H, I.tok _, ⟨s.toks + 1, by rw [List.size_toArray, hlen]⟩, q⟩
/-! ### the call of a builtin's method: o.m(..) -/
/-- the value is of that builtin type -/
def tyV (K : PySem.W.Frag) (T : String) (x : V) (H : Hp) : Prop := match x with
  | .str _ => T = "str"
  | .int _ => T = "int"
  | .ref p => (T = "list" ∧ ∃ xs, SqL K H p xs) ∨ (T = "tuple" ∧ ∃ o, K.lookup p = some o ∧ o.cls = .type "tuple" ∧ o.dict = none) ∨
      (T = "dict" ∧ ((∃ kvs, H p = some (.dK kvs)) ∨ ∃ kvs, H p = some (.dT kvs))) ∨ (T = "set" ∧ ∃ S n, H p = some (.set S n))
  | _ => False
theorem tyV_is {pins : List (Addr × Obj)} {σ : St} {H : Hp} {s : Shared} {T : String} {x : V} {v : Value} (I : Inv X pins σ H s) (r : RelV x v) (ty : tyV X.K T x H) :
    s.TypeIs v T ∧ ∀ a, v = .ref a → ∃ ob, s.heap.get? a = some ob ∧ ob.dict = none := by
  cases x with
  | str z =>
    obtain ⟨t, rfl⟩ := r
    cases (show T = "str" from ty)
    exact ⟨typeIs_str s z t, fun _ e => nomatch e⟩
  | int i =>
    obtain ⟨t, rfl⟩ := r
    cases (show T = "int" from ty)
    exact ⟨typeIs_int s i t, fun _ e => nomatch e⟩
  | ref p =>
    cases r
    rcases ty with ⟨rfl, xs, hq⟩ | ⟨rfl, o, hk, hc, hd⟩ | ⟨rfl, hk⟩ | ⟨rfl, S, n, hk⟩
    · obtain ⟨its, _, pl, _⟩ := I.list hq
      refine ⟨pl.isList.typeIs, fun a e => ?_⟩
      cases e
      obtain ⟨o, n, e, c, hd, _⟩ := pl
      exact ⟨o, e, hd⟩
    · refine ⟨⟨o, I.kIn p o hk, hc⟩, fun a e => ?_⟩
      cases e
      exact ⟨o, I.kIn _ o hk, hd⟩
    · have z : ∃ o, s.heap.get? p = some o ∧ o.ExactDict := by
        rcases hk with ⟨kvs, hk⟩ | ⟨kvs, hk⟩
        · obtain ⟨_, _, _, _, o, _, _, e, ex, _⟩ := I.hok p _ hk
          exact ⟨o, e, ex⟩
        · obtain ⟨_, _, _, _, o, _, _, e, ex, _⟩ := I.hok p _ hk
          exact ⟨o, e, ex⟩
      obtain ⟨o, e, ex⟩ := z
      refine ⟨⟨o, e, ex.1⟩, fun a e2 => ?_⟩
      cases e2
      exact ⟨o, e, ex.2.1⟩
    · obtain ⟨o, _, _, _, e, ex, _⟩ := I.hok p _ hk
      refine ⟨⟨o, e, ex.1⟩, fun a e2 => ?_⟩
      cases e2
      exact ⟨o, e, ex.2.1⟩
  | _ => exact False.elim ty
def tBM0 (K : PySem.W.Frag) (T : String) (r : V → List V → Hp → VK → Prop) (to : TE) : TE := fun σ H Q => to σ H fun x H1 => tyV K T x H1 ∧ r x [] H1 Q
def tBM (K : PySem.W.Frag) (T : String) (r : V → List V → Hp → VK → Prop) (to : TE) (t : TA) : TE := fun σ H Q => to σ H fun x H1 => tyV K T x H1 ∧ t σ H1 fun xs H2 => r x xs H2 Q
variable {o e : Expr} {es : List Expr} {to : TE} {t : TA} {name : Str} {apos cpos : Pos} {T id : String} {r : V → List V → Hp → VK → Prop}
theorem pe_bm (pa : PlainAttrs T) (slot : Slot T name id) (hty : typeOf (.builtin id) = pure (.type "method_descriptor")) (hm : MtR X id r) (ho : PE X o to) (ha : PA X (e :: es) t)
    (hbase : attributeBase o name X.env (eval o X.env) = eval o X.env := by rfl)
    (hfew : ((backTo cpos (starEach (e :: es) X.env)).all (fun x => !x.1) && (backToKw cpos (keywordEach [] X.env)).all (fun x => x.1.isSome)
      && decide ((e :: es).length + ([] : List Keyword).length + (if ([] : List Keyword).isEmpty then 0 else 1) < 30)) = true := by rfl)
    (hline : (apos.endLine == cpos.line) = true := by rfl) (hs : starEach (e :: es) X.env = (false, eval e X.env) :: starEach es X.env := by rfl) (hplain : (backTo cpos (starEach es X.env)).any (·.1) = false := by rfl) :
    PE X (.Call (.Attribute o name apos) (e :: es) [] cpos) (tBM X.K T r to t) := by
  intro pins s σ H Q I h
  refine wpAny_Call_method_late hbase hfew hline rfl (thn (ho pins s σ H _ I h) fun v s1 ⟨x, H1, I1, r1, ty, q1⟩ => ?_)
  obtain ⟨h1, h2⟩ := tyV_is I1 r1 ty
  refine ⟨T, id, pa, slot, hty, h1, h2, ?_⟩
  have hA := ha cpos pins s1 σ H1 _ I1 q1
  rw [hs] at hA ⊢
  refine Calls.callWith_builtin (by show (false || (backTo cpos (starEach es X.env)).any (·.1)) = false; rw [hplain] <;> rfl) (Calls.evalArgs_plain ?_)
  exact thn hA fun us s2 ⟨vs, H2, I2, r2, q2⟩ => hm pins s2 σ H2 x vs v us Q I2 r1 r2 q2
/- xs.append(e), list.index on a module's tuple .. are MtR facts of 06m -/
end
end L2

namespace L2
open PySem PySem.Spec PyProof.Rows

def MtM (X : Cx) (id : String) (r : V → List V → Hp → VK → Prop) : Prop :=
  ∀ (pins : List (Addr × Obj)) (s : Shared) (σ : St) (H : Hp) (x : V) (xs : List V) (v : Value) (us : List Value) (Q : VK), Inv X pins σ H s → RelV x v → Vals xs us → r x xs H Q →
    wpAny (model X.prog X.w) X.A (call (.builtin id) (v :: us)) (EP X pins σ Q) X.xe s

/-! ### lists of values -/
theorem Vals.one : ∀ {x : V} {us : List Value}, Vals [x] us → ∃ u, us = [u] ∧ RelV x u
  | _, _, .cons r .nil => ⟨_, rfl, r⟩
theorem Vals.two : ∀ {x y : V} {us : List Value}, Vals [x, y] us → ∃ u v, us = [u, v] ∧ RelV x u ∧ RelV y v
  | _, _, _, .cons r (.cons q .nil) => ⟨_, _, rfl, r, q⟩
theorem Vals.zero : ∀ {us : List Value}, Vals [] us → us = []
  | _, .nil => rfl
theorem Vals.eraseIdx : ∀ {xs : List V} {us : List Value} (i : Nat), Vals xs us → Vals (xs.eraseIdx i) (us.eraseIdx i)
  | _, _, _, .nil => .nil
  | _, _, 0, .cons _ t => t
  | _, _, i + 1, .cons r t => .cons r (Vals.eraseIdx i t)
theorem Vals.reverse {xs : List V} {us : List Value} (h : Vals xs us) : Vals xs.reverse us.reverse := by
  induction h with
  | nil => exact .nil
  | cons r t ih => rw [List.reverse_cons, List.reverse_cons]; exact Vals.append ih (.cons r .nil)
section
variable {X : Cx} {pins : List (Addr × Obj)} {σ : St} {H : Hp} {s : Shared} {l b : Addr} {xs ys zs : List V}

/-! ### the two steps: a tracked list is rewritten, a new list is laid -/
theorem Inv.lset {its its' : List Value} {n : Nat} {f : Array Value → Array Value} {t' : Nat} (I : Inv X pins σ H s) (hH : H l = some (.lst xs))
    (e : s.heap.get? l = some { cls := .type "list", data := .seq its.toArray n }) (hf : f its.toArray = its'.toArray) (hv : Vals ys its') (hz : ys.length ≤ sizeLine) :
    Inv X pins σ (upd H l (.lst ys)) { s with heap := s.heap.update l (Obj.mapSeq f), toks := t' } := by
  have q := PySem.IsL.update e f
  rw [hf] at q
  refine I.write (x := l) (e := l) (by rw [hH]; exact trivial) (.inl rfl) (fun b' u hb hu => (Heap.get?_update_other s.heap (Obj.mapSeq f) (Ne.symm hb)).trans hu) ⟨_, q⟩ ?_
  exact ⟨hz, its', _, hv, q⟩
theorem Inv.fresh (I : Inv X pins σ H s) : H s.heap.objs.size = none := I.hok.fresh (Nat.le_refl _)
theorem Inv.lstM (I : Inv X pins σ H s) (hH : H l = some (.lst xs)) : xs.length ≤ sizeLine ∧ ∃ (its : List Value) (n : Nat), Vals xs its ∧ xs.length = its.length ∧ s.heap.get? l = some { cls := .type "list", data := .seq its.toArray n } := by
  obtain ⟨z, its, n, r, e⟩ := I.hok l _ hH
  exact ⟨z, its, n, r, r.length, e⟩

end

section
variable {X : Cx}

/-! ### methods -/
def rAppend : V → List V → Hp → VK → Prop := fun x vs H Q => ∃ l xs y, x = .ref l ∧ vs = [y] ∧ H l = some (.lst xs) ∧ xs.length < sizeLine ∧ Q .non (upd H l (.lst (xs ++ [y])))
theorem mt_append : MtM X "list.append" rAppend := by
  intro pins s σ H x vs v us Q I rx rv h
  obtain ⟨l, xs, y, rfl, rfl, hH, hz, q⟩ := h
  cases rx
  obtain ⟨u, rfl, ru⟩ := rv.one
  obtain ⟨z, its, n, r, hl, e⟩ := I.lstM hH
  refine call_meets F.slot_list_append ⟨_, e, rfl⟩ F.entry_list_append (F.args_list_append_2 _ _) (PySem.list_append l its.toArray n u (by rw [List.size_toArray]; omega)) ⟨e, ?_⟩
  refine ⟨.non, _, I.lset (its' := its ++ [u]) hH e (by simp) (r.append (.cons ru .nil)) ?_, rfl, q⟩
  rw [List.length_append, List.length_singleton]
  omega

/-! ### list + list, list += list, list * int -/
/-! ### del xs[i] -/
end

/-! ### xs[a:b] = ys -/
section
variable {prog : Program} {w : World} {A : Around} {E : Value → Shared → Prop} {s : Shared}
end

section
variable {X : Cx}
end
end L2

namespace Att
open PySem PySem.W PySem.Calls PyProof.Rows

/-! ### the script -/
theorem ints_of_wellAll {P : Params} {h : Heap} : ∀ (ns : List Int) (vs : List Value), WellAll P h vs (ns.map WData.int) → IntsAre vs ns := by
  intro ns
  induction ns with
  | nil =>
    intro vs w
    rw [List.map_nil] at w
    cases w
    exact .nil
  | cons n ns ih =>
    intro vs w
    rw [List.map_cons] at w
    cases w with
    | cons a b =>
      cases a
      exact .cons _ _ (ih _ b)

theorem script_of {l : OpenLaw} {n : Nat} (hn : l.most = some n) {P : Params} {h : Heap} {args : List WData} {vals : List Value}
    (hpre : l.row.toRowW.claim.pre args = true) (hwl : WellAll P h vals args) :
    ∃ a vs ns, vals = [Value.ref a] ∧ args = [WData.list (ns.map WData.int)] ∧ h.get? a = some { cls := .type "list", data := .seq vs.toArray } ∧ IntsAre vs ns ∧ ns.length ≤ n := by
  have hsh : WShape.hasAll [] args [.list .int] = true := (pre_splitW hpre).1
  have hc : l.pre.holds [] { args := args } = true := (pre_splitW hpre).2
  obtain ⟨d, r, rfl, h1, h2⟩ := hasAllW_cons hsh
  obtain rfl := hasAllW_nil h2
  obtain ⟨xs, rfl, h3⟩ := hasW_list h1
  obtain ⟨ns, rfl⟩ := items_int h3
  have hlen : ns.length ≤ n := by
    unfold OpenLaw.pre at hc
    have h4 : (WTm.not (.lt (.lit (.int (n : Int))) (.len (.arg 0)))).holds [] { args := [.list (ns.map .int)] } = true := by
      have h4 := (holds_andW hc).1
      rw [hn] at h4
      exact h4
    have h5 := condW_of h4 (w_not (w_lt w_lit (w_len_list (w_arg rfl))))
    rw [List.length_map] at h5
    refine Nat.le_of_not_lt fun q => ?_
    have q' : (n : Int) < ((ns.length : Nat) : Int) := by omega
    first
      | (rw [decide_eq_true q'] at h5; exact absurd h5 (by decide))
      | (simp at h5; omega)
  cases hwl with
  | cons w1 w2 =>
    cases w2
    cases w1 with
    | list ho hall => exact ⟨_, _, ns, rfl, rfl, ho, ints_of_wellAll ns _ hall, hlen⟩

theorem post_true (l : OpenLaw) (args : List WData) : l.row.toRowW.claim.post args (.bool true) args = true :=
  postW_of (r := l.row.toRowW) (X := (true == true))
    (show WShape.has [] (.bool true) .bool = true by first | rfl | decide | simp [WShape.has, WShape.arms, WShape.armsAll])
    (show (WTm.eq .res (.lit (.bool true))).value [] { args := args, res := some (.bool true), after := args } = some (.bool (true == true)) from w_eq_bool (w_res rfl) w_lit) rfl

/-! ### the attachment: holds_open's last premise (the goal 'hc' behind k_head) from a wpAny of the law's body -/
/-! ### rules over ANY heap (no ledger) from facts about the written part K: the library's own take a ledger (News) for what they write -/
section
variable {prog : Program} {w : World} {A : Around} {E : Value → Shared → Prop} {s : Shared} {K : Frag}

/-! the whole heap as the ledger: makes every rule that writes through a ledger a rule over any heap -/
end
end Att

namespace L2
open PySem PySem.Spec PyProof.Rows

theorem vals_ints : ∀ {vs : List Value} {ns : List Int}, IntsAre vs ns → Vals (ns.map V.int) vs
  | _, _, .nil => .nil
  | _, _, .cons n t h => .cons ⟨t, rfl⟩ (vals_ints h)

/-- nothing is tracked but the script, known to the object (or it is an object of the module) -/
def Only (H : Hp) : Prop := ∀ b, H b = none ∨ ∃ o xs, H b = some (.frz o (.lst xs))

/-- THE HEAD: the law's promise, at the heap behind the top. F, the promise of the law's def, may use that base is part of the heap (so K.In base, base.Ns mainGlobals mg stand in Mod) -/
theorem law_call {P : Program} {w : World} {K : PySem.W.Frag} {mg mb : Str → Option Value} {CX : CXT} {k : Nat} {fa a : Addr} {fd : FuncData} {x : Str} {sp : Sp} {s₁ : Shared} {vs : List Value} {ns : List Int}
    (KX : K.In s₁.heap) (hns : s₁.heap.Ns mainGlobals mg) (hb : s₁.heap.Ns builtinsNs mb) (hbb : ∀ x : Str, x ≠ "__name__" → mb x = bootBuiltins x) (hlim : s₁.heap.NoLimit) (hg : s₁.gens = #[])
    (ha : s₁.heap.get? a = some { cls := .type "list", data := .seq vs.toArray }) (hi : IntsAre vs ns) (hl : ns.length ≤ sizeLine) (hr : Room k callerA)
    (F : ∀ base : Heap, K.In base → base.Ns mainGlobals mg → FnOk P w K mg base CX k fa fd [x] sp) (hbind : ∀ (s : Shared) (u : Value), BindsTo s fd ⟨[u], []⟩ [(x, u)])
    (hsp : ∀ H : Hp, Only H → SqL K H a (ns.map V.int) → sp [.ref a] H (fun v _ => v = .bl true) fun _ _ _ => False)
    (hCX : ∀ H e s', CX [] H s₁ (fun _ _ _ => False) e s' → False) :
    codeAny (model P w) callerA (.call (.ref fa) ⟨[.ref a], []⟩) (fun r s' => r = .ok (.ret (.bool true)) ∧ OldK s₁.heap s'.heap ∧ s'.os = s₁.os ∧ AllBare s'.gens) s₁ := by
  have rv := vals_ints hi
  have lenV := hi.length
  -- from an abstract heap in which nothing but the script may be tracked
  have core : ∀ H : Hp, Only H → SqL K H a (ns.map V.int) → HOk P w H s₁.heap → (∀ b, H b ≠ none → b = a) → (H a ≠ none → K.lookup a = none) →
      codeAny (model P w) callerA (.call (.ref fa) ⟨[.ref a], []⟩) (fun r s' => r = .ok (.ret (.bool true)) ∧ OldK s₁.heap s'.heap ∧ s'.os = s₁.os ∧ AllBare s'.gens) s₁ := by
    intro H hO hS hok hA hK
    have base_of : ∀ {b : Addr} {o : Obj}, s₁.heap.get? b = some o → H b = none → (hidT s₁.heap H).get? b = some o := fun e n => hidT_get e n
    have noA : ∀ {b : Addr} {o : Obj} {es : Array DictEntry} {ep : Nat}, s₁.heap.get? b = some o → o.data = .dict es ep → H b = none := fun {b o es ep} e d => by
      cases q : H b with
      | none => rfl
      | some u =>
        have e' : b = a := hA b (by rw [q]; simp)
        subst e'
        rw [ha] at e; cases e
        have d' : Data.seq vs.toArray _ = Data.dict es ep := d
        cases d'
    have nsK : ∀ {b : Addr} {m : Str → Option Value}, s₁.heap.Ns b m → (hidT s₁.heap H).Ns b m := fun {b m} ⟨o, es, ep, e, d, r⟩ => ⟨o, es, ep, base_of e (noA e d), d, r⟩
    have hKb : K.In (hidT s₁.heap H) := fun b o e => base_of (KX b o e) (by
      cases q : H b with
      | none => rfl
      | some u =>
        have e' : b = a := hA b (by rw [q]; simp)
        subst e'
        rw [hK (by rw [q]; simp)] at e; cases e)
    have hM : Mod K mg (hidT s₁.heap H) := ⟨hKb, nsK hns, ⟨mb, nsK hb, hbb⟩, let ⟨mc, h1, h2⟩ := hlim; ⟨mc, nsK h1, h2⟩⟩
    have e0 : Env0 P w K mg (hidT s₁.heap H) callerA [] s₁ H := ⟨rfl, hM, fun b o e => of_hidT e, Nat.le_of_eq (hidT_size _ _), trivial, fun b hb => absurd (show b ∈ ([] : List Addr) from hb) (by simp), hok, .of_eq hg⟩
    refine codeAny_mono ((F _ hKb (nsK hns)).run callerA [] s₁ H ⟨[.ref a], []⟩ [.ref a] [.ref a] _ _ hr e0 (hbind s₁ (.ref a)) (.cons rfl .nil) (hsp H hO hS)) fun r s' h => ?_
    cases r with
    | error e => exact (hCX H e s' h).elim
    | ok fl =>
      cases fl with
      | next => exact False.elim h
      | brk => exact False.elim h
      | cont => exact False.elim h
      | ret u =>
        obtain ⟨v, H', os, bare, un, hok', r', q⟩ := h
        have q' : v = .bl true := q
        subst q'
        obtain rfl : u = Value.bool true := r'
        refine ⟨rfl, OldK.of_keep fun b o e => ?_, os, bare⟩
        cases q : H b with
        | none => exact un.keep b o e q (by intro z; exact absurd (show b ∈ ([] : List Addr) from z) (by simp)) (by simp)
        | some u =>
          rcases hO b with z | ⟨ob, xs, z⟩
          · rw [q] at z; cases z
          · have z2 := un.frzs b ob _ z
            obtain ⟨e1, _⟩ := hok b _ z
            obtain ⟨e2, _⟩ := hok' b _ z2
            rw [e] at e1; cases e1
            exact e2
  cases hk : K.lookup a with
  | some o =>
    -- the script is one of the module's own objects
    have e := KX a o hk
    rw [ha] at e
    cases e
    refine core (fun _ => none) (fun _ => .inl rfl) (.inr ⟨_, vs.toArray, _, hk, rfl, rfl, rfl, by rw [List.size_toArray, lenV]; exact hl, by simpa using rv⟩) (fun b u z => by have z' : (none : Option HO) = some u := z; cases z') (fun b z => absurd rfl z) fun z => absurd rfl z
  | none =>
    refine core (fun b => if b = a then some (.frz { cls := .type "list", data := .seq vs.toArray } (.lst (ns.map V.int))) else none) (fun b => ?_) (.inl (.inr ⟨{ cls := .type "list", data := .seq vs.toArray }, if_pos rfl⟩)) (fun b u z => ?_) (fun b z => ?_) fun _ => hk
    · by_cases hb : b = a
      · exact .inr ⟨_, _, if_pos hb⟩
      · exact .inl (if_neg hb)
    · by_cases hb : b = a
      · have z' := (if_pos hb).symm.trans z
        cases z'
        subst hb
        exact ⟨ha, by rw [List.length_map]; exact hl, vs, _, rv, ha⟩
      · have z' := (if_neg hb).symm.trans z
        cases z'
    · by_cases hb : b = a
      · exact hb
      · exact absurd (if_neg hb) z
end L2

namespace L2
open PySem PySem.Spec PyProof.Rows

end L2

/- THE LAST THEOREM (shape; LID, My.* are yours):
   My.Adr: a structure of the addresses that your layer names (classes, functions); My.Txt K t: a structure (Prop) of the equations over K;
   My.txt_mk : {K} {implicit addresses ..} (e1 : nsIn K mainGlobals "law" = some (some (.ref f))) (e2 : K.lookup f = some ⟨oc, od, .func (fnOf "law" "law" params body scope dV kV doc pm an cdv ct), sl⟩) (e3 : codeIn K cdv "law" = true) .. : ∃ t, My.Txt K t

set_option maxRecDepth 100000 in
set_option maxHeartbeats 0 in
theorem PySem.Challenge.cw_LID_holds : PySem.Challenge.rw_LID.Holds := by
  w_on; o_law; k_head; (case hw => w_witness2)
  k_fill
  refine L2.walk_of (l := PySem.Challenge.rw_LID) (n := 63) (k := 40) (x := "script") (CX := fun w => ..) (sp := fun _ => My.sp_law) rfl (by decide) rfl ⟨rfl, by decide, by decide⟩ (fun w h Y => PySem.W.kIn_of Y) ?F ?S ?C
  case F =>
    intro w mg fa h KX G hmg
    have T : ∃ t, My.Txt (L2.KOf KX) t := by
      dsimp only [L2.KOf]                          -- K must stand as «<heap const> w.params» for k_is
      refine' My.txt_mk ?e1 ?e2 ?e3 ..
      (case e1 => PySem.W.k_is)                    -- in the order: a name -> its address -> its object -> its parts
      (case e2 => PySem.W.k_is)
      ..
    obtain ⟨t, T⟩ := T
    have e0 := hmg.symm.trans (PySem.W.mg_of KX G T.law)
    cases e0                                       -- fa is the law's own address
    exact ⟨_, fun s u => .of_eq rfl, fun base kb nb => My.law_fn T kb nb⟩     -- if «.of_eq rfl» comes too early: refine' ⟨_, ?b, fun base kb nb => My.law_fn T kb nb⟩; exact fun s u => .of_eq rfl
  case S => exact fun w H a ns hl hO hS => ..
  case C => exact ..
(the tactic k_is has no namespace: write k_is) -/

/-! SHORT WORDS over the layer: a def of the text, its body, what a loop and a test want. -/
namespace L2
open PySem PySem.Spec PyProof.Rows

/-! ### the text by places -/
def defArgs (s : Stmt) : Arguments := match s with
  | .FunctionDef _ a _ _ _ _ _ _ _ _ => a
  | _ => { posonlyargs := [], args := [], vararg := none, kwonlyargs := [], kw_defaults := [], kwarg := none, defaults := [] }
def defBody (s : Stmt) : List Stmt := match s with
  | .FunctionDef _ _ b _ _ _ _ _ _ _ => b
  | _ => []
def defScope (s : Stmt) : Scope := match s with
  | .FunctionDef _ _ _ _ _ _ sc _ _ _ => sc
  | _ => { kind := .function, names := [], isGenerator := false, isCoroutine := false }

/-! ### no exception leaves a def -/
abbrev CX0 : CXT := fun _ _ _ _ _ _ => False
abbrev E0 : XK := fun _ _ _ => False
theorem pass0 {X : Cx} : Passes CX0 X E0 := fun _ _ _ _ _ _ _ h => h.elim

/-! ### a def (or method) of the text as it stands behind the top -/
structure Fun (K : PySem.W.Frag) (x qual : Str) (st : Stmt) (f : Addr) (fd : FuncData) : Prop where
  ex : ∃ (oc : Value) (od : Option Addr) (kV doc pm : Value) (an : Option Addr) (cdv ct : Value) (osl : Array (Option Value)),
    fd = PySem.W.fnOf x qual (defArgs st) (defBody st) (defScope st) .none kV doc pm an cdv ct ∧ K.lookup f = some ⟨oc, od, .func fd, osl⟩ ∧ PySem.W.codeIn K cdv qual = true
  kp : PySem.W.keepIn K (.ref f) = true
section
variable {P : Program} {w : World} {K : PySem.W.Frag} {mg : Str → Option Value} {base : Heap}
/-- THE RULE for a def: its body as a term of rules, and the reading of that term -/
theorem Fun.ok {x qual : Str} {st : Stmt} {f : Addr} {fd : FuncData} {N ps : List Str} {k : Nat} {sp : Sp} (F : Fun K x qual st f fd) (S : FnScope N ps (defScope st)) (len : ∀ vs H Q E, sp vs H Q E → vs.length = ps.length)
    (hbody : ∀ (cdv : Value) (A : Around) (outer : List Env) (s : Shared) (H : Hp) (vs : List V) (Q : VK) (E : XK), Room k (A.deeper (envOfC qual (defScope st) s.heap.objs.size f cdv)) → sp vs H Q E →
      ∃ t, PSs (cxOf CX0 P w K mg base N qual (defScope st) f cdv A outer s H E).nox (defBody st) t ∧ t { nx := fun _ H' => Q .non H', rt := Q } (start N vs) H) : FnOk P w K mg base CX0 (k + 1) f fd ps sp := by
  obtain ⟨oc, od, kV, doc, pm, an, cdv, ct, osl, rfl, lk, hcd⟩ := F.ex
  refine fn_of lk hcd S len fun A outer s H vs Q E hr hsp => ?_
  obtain ⟨t, h, q⟩ := hbody cdv A outer s H vs Q E hr hsp
  exact ⟨t, h.nox, q⟩
/-- how its arguments bind (no defaults): h is «fun _ _ _ _ _ _ us hl => match us, hl with | [_, _], _ => rfl», one _ a parameter -/
theorem Fun.binds {x qual : Str} {st : Stmt} {f : Addr} {fd : FuncData} {ps : List Str} (F : Fun K x qual st f fd)
    (h : ∀ (kV doc pm : Value) (an : Option Addr) (cdv ct : Value) (us : List Value), us.length = ps.length → bindArgs (PySem.W.fnOf x qual (defArgs st) (defBody st) (defScope st) .none kV doc pm an cdv ct) ⟨us, []⟩ = pure (ps.zip us)) : Binds K fd ps [] := by
  obtain ⟨oc, od, kV, doc, pm, an, cdv, ct, osl, rfl, lk, hcd⟩ := F.ex
  exact .all (h kV doc pm an cdv ct)
theorem fun_mk {x qual : Str} {st : Stmt} {f : Addr} {oc : Value} {od an : Option Addr} {osl : Array (Option Value)} {kV doc pm cdv ct : Value} (l : K.lookup f = some ⟨oc, od, .func (PySem.W.fnOf x qual (defArgs st) (defBody st) (defScope st) .none kV doc pm an cdv ct), osl⟩)
    (c : PySem.W.codeIn K cdv qual = true) (k : PySem.W.keepIn K (.ref f) = true) : Fun K x qual st f (PySem.W.fnOf x qual (defArgs st) (defBody st) (defScope st) .none kV doc pm an cdv ct) := ⟨⟨oc, od, kV, doc, pm, an, cdv, ct, osl, rfl, l, c⟩, k⟩
end
theorem small1000 {n : Nat} (h : n ≤ 1000) : n < sizeLine := Nat.lt_of_le_of_lt h (by decide)

/-! ### expressions in short: the name that stands in the i-th slot -/
section
variable {X : Cx}
theorem pv (i : Nat) {x : Str} {pos : Pos} (hN : X.N[i]? = some x := by rfl) (hv : Vis X.env.scope x := by first | exact Or.inl rfl | exact Or.inr (Or.inl rfl) | exact Or.inr (Or.inr rfl)) (hd : (x == ("__debug__" : Str)) = false := by decide)
    (hcd : (x == ("__classdict__" : Str)) = false := by decide) : PE X (.Name x pos) (tVar i) := pe_var hN hv hd hcd
end

/-! ### tests -/
/-! ### heaps -/
/-- all that was tracked is as it was -/
def Same (H H' : Hp) : Prop := ∀ b o, H b = some o → H' b = some o
theorem Same.refl (H : Hp) : Same H H := fun _ _ h => h
theorem Same.trans {H H1 H2 : Hp} (a : Same H H1) (b : Same H1 H2) : Same H H2 := fun c o h => b c o (a c o h)
theorem Same.free {H H' : Hp} (e : Same H H') {l : Addr} (h : H' l = Option.none) : H l = Option.none := by
  cases q : H l with
  | none => rfl
  | some o =>
    rw [e l o q] at h
    cases h
theorem Same.seq {K : PySem.W.Frag} {H H' : Hp} {a : Addr} {xs : List V} (e : Same H H') (h : SqL K H a xs) : SqL K H' a xs := by
  rcases h with (h | ⟨o, h⟩) | h
  · exact .inl (.inl (e _ _ h))
  · exact .inl (.inr ⟨o, e _ _ h⟩)
  · exact .inr h

end L2
namespace L2
open PySem PySem.Spec PyProof.Rows

/-! ### a comprehension's loop, the step ahead of the store told -/
/-- the block of a comprehension: s, H the state behind the new list -/
def cxComp (X : Cx) (N : List Str) (scope : Scope) (cl : List (Str × Addr)) (s : Shared) (H : Hp) (fp : List Addr) : Cx :=
  { X with N := N, s₀ := s, H₀ := H, env := compEnvC scope cl s.heap.objs.size X.env, outer := X.stack, ex := fp, fn := fun _ => false, pn := [], xe := fun _ _ => False }

/-- own: the names that the block binds; capt: the captured ones, which stand in the slots fr of the def -/
structure CompSc (X : Cx) (own capt : List Str) (scope : Scope) (cl : List (Str × Addr)) (fr : List Nat) : Prop where
  clos : closureFor scope X.env = pure cl
  nocell : ∀ y ∈ scope.names, y.2 ≠ .cell
  kind : scope.kind = .function
  names : ∀ y ∈ scope.names, y.2 = .local → scope.names.lookup y.1 = some .local
  inn : ∀ y c, cl.lookup y = some c → X.env.cells.lookup y = some c
  has : ∀ y, ((relabel scope X.env).names.lookup y = some .cell ∨ (relabel scope X.env).names.lookup y = some .free) → ∃ c, cl.lookup y = some c
  cap : ∀ (k : Nat) (y : Str), capt[k]? = some y → ∃ j c, fr[k]? = some j ∧ X.N[j]? = some y ∧ X.env.scope.names.lookup y = some .cell ∧ cl.lookup y = some c ∧
    ((relabel scope X.env).names.lookup y = some .cell ∨ (relabel scope X.env).names.lookup y = some .free)
  len : capt.length = fr.length
/-- nothing is captured -/
theorem CompSc.none {X : Cx} {own : List Str} {scope : Scope} (h1 : ∀ y ∈ scope.names, y.2 ≠ .free) (h2 : ∀ y ∈ scope.names, y.2 ≠ .cell) (kind : scope.kind = .function) (names : ∀ y ∈ scope.names, y.2 = .local → scope.names.lookup y.1 = some .local) :
    CompSc X own [] scope [] [] where
  clos := closureFor_none h1
  nocell := h2
  kind := kind
  names := names
  inn := fun y c e => nomatch e
  has := fun y e => by
    have mem : ∀ (l : List (Str × NameKind)) (y : Str) (k : NameKind), l.lookup y = some k → ∃ z ∈ l, z.2 = k := by
      intro l
      induction l with
      | nil => intro y k e; cases e
      | cons a r ih =>
        intro y k e
        obtain ⟨n, q⟩ := a
        rw [List.lookup_cons] at e
        cases hy : y == n with
        | true => rw [hy] at e; exact ⟨(n, q), by simp, Option.some.inj e⟩
        | false =>
          rw [hy] at e
          obtain ⟨z, hz, e2⟩ := ih y k e
          exact ⟨z, by simp [hz], e2⟩
    exfalso
    have same : (relabel scope X.env).names = scope.names := by
      unfold relabel
      exact map_eq_self (l := scope.names) fun x hx => by
        obtain ⟨n, k⟩ := x
        have : (k == NameKind.free) = false := by simpa using h1 _ hx
        simp [this]
    rw [same] at e
    rcases e with e | e
    · obtain ⟨z, hz, e2⟩ := mem _ _ _ e; exact h2 z hz e2
    · obtain ⟨z, hz, e2⟩ := mem _ _ _ e; exact h1 z hz e2
  cap := fun k y e => by simp at e
  len := rfl

def st0 (own : List Str) (fr : List Nat) (σ : St) : St := own.map (fun _ => Option.none) ++ fr.map fun j => (σ[j]?).join

/-- the tests of the clause -/
def PTs (X : Cx) (ifs : List Expr) (t : TT) : Prop :=
  ∀ (pins : List (Addr × Obj)) (s : Shared) (σ : St) (H : Hp) (Q : Bool → Hp → Prop), Inv X pins σ H s → t σ H Q →
    wpAny (model X.prog X.w) X.A (forIn ifs true fun c r => if r = true then do let ok ← isTrue c X.env (eval c X.env); pure (ForInStep.yield ok) else pure (ForInStep.yield r)) (TP X pins σ Q) X.xe s
def tTrue : TT := fun _ H Q => Q true H
def tComp (wi : TI) (g : TG) (tt : TT) (te : TE) (own : List Str) (fr : List Nat) : TE := fun σ H Q => wi σ H fun J H1 => ∀ D, H1 D = none → ∃ W : Nat → Nat → St → Hp → Prop, (∃ m, W 0 m (st0 own fr σ) (upd H1 D (.lst []))) ∧ ∀ i m σc H, W i m σc H →
  (J.stop i H ∧ Q (.ref D) H) ∨ (J.go i H ∧ ∃ N : St → Hp → Prop, (∀ σ' H', N σ' H' → ∃ m', m' < m ∧ W (i + 1) m' σ' H') ∧ ∀ x H', J.yld i H x H' → g x σc H' fun σ2 H2 => tt σ2 H2 fun b H3 =>
    if b = true then te σ2 H3 fun y H4 => ∃ ys, H4 D = some (.lst ys) ∧ ys.length < sizeLine ∧ N σ2 (upd H4 D (.lst (ys ++ [y]))) else N σ2 H3)

end L2
namespace L2
open PySem PySem.Spec PyProof.Rows
/-! ### a def of the text that may be called by its name -/
def Has (P : Program) (w : World) (K : PySem.W.Frag) (mg : Str → Option Value) (base : Heap) (k : Nat) (x : Str) (ps : List Str) (sp : Sp) : Prop :=
  ∃ f fd, FnOk P w K mg base CX0 k f fd ps sp ∧ (∀ us : List Value, us.length = ps.length → bindArgs fd ⟨us, []⟩ = pure (ps.zip us)) ∧ PySem.W.keepIn K (.ref f) = true ∧ mg x = some (.ref f) ∧ ∃ oc od osl, K.lookup f = some ⟨oc, od, .func fd, osl⟩
theorem Has.mono {P : Program} {w : World} {K : PySem.W.Frag} {mg : Str → Option Value} {base : Heap} {j k : Nat} {x : Str} {ps : List Str} {sp : Sp} (h : Has P w K mg base j x ps sp) (hk : j ≤ k) : Has P w K mg base k x ps sp :=
  let ⟨f, fd, F, b⟩ := h
  ⟨f, fd, F.mono hk, b⟩
theorem pe_def {X : Cx} {k : Nat} {x : Str} {ps : List Str} {sp : Sp} {p pos : Pos} {e : Expr} {es : List Expr} {t : TA} (h : Has X.prog X.w X.K X.mg X.base k x ps sp) (hr : Room k X.A) (ha : PA X (e :: es) t) (hg : Gl X x := by rfl)
    (hdb : (x == ("__debug__" : Str)) = false := by decide) (he : starEach (e :: es) X.env = (false, eval e X.env) :: starEach es X.env := by rfl) (hpl : (backTo pos (starEach es X.env)).any (·.1) = false := by rfl) :
    PE X (.Call (.Name x p) (e :: es) [] pos) (tCall sp [] E0 t) := by
  obtain ⟨f, fd, F, hb, hk, hm, _⟩ := h
  exact pe_call F hr hg hm hk (.all hb) .nil pass0 ha hdb he hpl
/-- a def as it stands behind the top -/
def TF (K : PySem.W.Frag) (mg : Str → Option Value) (x : Str) (st : Stmt) : Prop := ∃ f fd, Fun K x x st f fd ∧ mg x = some (.ref f)
theorem tf_mk {K : PySem.W.Frag} {h : Heap} {mg : Str → Option Value} {x : Str} {st : Stmt} {f : Addr} {oc : Value} {od an : Option Addr} {osl : Array (Option Value)} {kV doc pm cdv ct : Value} (X : K.In h) (G : h.Ns mainGlobals mg)
    (a : PySem.W.nsIn K mainGlobals x = some (some (.ref f))) (l : K.lookup f = some ⟨oc, od, .func (PySem.W.fnOf x x (defArgs st) (defBody st) (defScope st) .none kV doc pm an cdv ct), osl⟩) (c : PySem.W.codeIn K cdv x = true) (k : PySem.W.keepIn K (.ref f) = true) : TF K mg x st :=
  ⟨f, _, fun_mk l c k, PySem.W.mg_of X G a⟩
theorem TF.has {P : Program} {w : World} {K : PySem.W.Frag} {mg : Str → Option Value} {base : Heap} {x : Str} {st : Stmt} {N ps : List Str} {k : Nat} {sp : Sp} (T : TF K mg x st) (S : FnScope N ps (defScope st))
    (hb : ∀ (kV doc pm : Value) (an : Option Addr) (cdv ct : Value) (us : List Value), us.length = ps.length → bindArgs (PySem.W.fnOf x x (defArgs st) (defBody st) (defScope st) .none kV doc pm an cdv ct) ⟨us, []⟩ = pure (ps.zip us))
    (len : ∀ vs H Q E, sp vs H Q E → vs.length = ps.length)
    (hbody : ∀ (f : Addr) (cdv : Value) (A : Around) (outer : List Env) (s : Shared) (H : Hp) (vs : List V) (Q : VK) (E : XK), Room k (A.deeper (envOfC x (defScope st) s.heap.objs.size f cdv)) → sp vs H Q E →
      ∃ t, PSs (cxOf CX0 P w K mg base N x (defScope st) f cdv A outer s H E).nox (defBody st) t ∧ t { nx := fun _ H' => Q .non H', rt := Q } (start N vs) H) : Has P w K mg base (k + 1) x ps sp := by
  obtain ⟨f, fd, F, m⟩ := T
  have ok := F.ok (P := P) (w := w) (mg := mg) (base := base) S len fun cdv A outer s H vs Q E hr hsp => hbody f cdv A outer s H vs Q E hr hsp
  obtain ⟨oc, od, kV, doc, pm, an, cdv, ct, osl, rfl, lk, hcd⟩ := F.ex
  exact ⟨f, _, ok, hb kV doc pm an cdv ct, F.kp, m, oc, od, osl, lk⟩
/-- the law's own def -/
theorem has_law {P : Program} {w : World} {K : PySem.W.Frag} {mg : Str → Option Value} {h : Heap} {k : Nat} {sp : Sp} {fa : Addr} (KX : K.In h) (G : h.Ns mainGlobals mg) (hfa : mg "law" = some (.ref fa))
    (H : ∀ base : Heap, K.In base → base.Ns mainGlobals mg → Has P w K mg base k "law" ["script"] sp) :
    ∃ fd : FuncData, (∀ (s : Shared) (v : Value), BindsTo s fd ⟨[v], []⟩ [("script", v)]) ∧ ∀ base : Heap, K.In base → base.Ns mainGlobals mg → FnOk P w K mg base CX0 k fa fd ["script"] sp := by
  obtain ⟨f, fd, F, hb, hk, hm, oc, od, osl, hl⟩ := H h KX G
  rw [hfa] at hm
  cases hm
  refine ⟨fd, fun s v => .of_eq (hb [v] rfl), fun base kb nb => ?_⟩
  obtain ⟨f', fd', F', _, _, hm', oc', od', osl', hl'⟩ := H base kb nb
  rw [hfa] at hm'
  cases hm'
  rw [hl] at hl'
  cases hl'
  exact F'

/-! ### the script's numbers have at most 2 ^ 20 bits -/
theorem bits_weight {ns : List Int} : ∀ z ∈ ns, Builtin.Int.intBits z ≤ PySem.W.WData.weightAll (ns.map PySem.W.WData.int) := by
  induction ns with
  | nil => intro z hz; cases hz
  | cons a r ih =>
    intro z hz
    rw [List.map_cons]
    show _ ≤ PySem.W.WData.weight (.int a) + 1 + PySem.W.WData.weightAll (r.map PySem.W.WData.int)
    rcases List.mem_cons.mp hz with e | hz
    · subst e
      have : PySem.W.WData.weight (.int z) = Builtin.Int.intBits z := rfl
      omega
    · have := ih z hz
      omega
open PySem.W in
theorem law_walk {l : PySem.W.OpenLaw} {k : Nat} {q : Program} {loose : List Str} {XP : (Str → Option Value) → Heap → Prop} {YP : World → Heap → Prop} {d : DefRec} {K : Params → PySem.W.Frag} {sp : PySem.W.Frag → Sp}
    (hn : l.most = some 63) (hdf : d.params.defaults = []) (hr : Room k callerA)
    (hY : ∀ (w : World) (h : Heap), YP w h → (K w.params).In h)
    (F : ∀ (w : World) (mg : Str → Option Value) (fa : Addr) (h : Heap), (K w.params).In h → h.Ns mainGlobals mg → mg d.name = some (.ref fa) →
      ∃ fd : FuncData, (∀ (s : Shared) (u : Value), BindsTo s fd ⟨[u], []⟩ [("script", u)]) ∧
        ∀ base : Heap, (K w.params).In base → base.Ns mainGlobals mg → FnOk l.prog w (K w.params) mg base CX0 k fa fd ["script"] (sp (K w.params)))
    (hsp : ∀ (K : PySem.W.Frag) (H : Hp) (a : Addr) (ns : List Int), ns.length ≤ 63 → (∀ z ∈ ns, Builtin.Int.intBits z ≤ 2 ^ 20) → SqL K H a (ns.map V.int) → sp K [.ref a] H (fun v _ => v = .bl true) fun _ _ _ => False) :
    PySem.W.WalkO q loose XP YP l.row.toRowW d [] (fun f vs => PySem.call f vs) := by
  intro w s₀ s₁ mg mb G Y fa o pm cd doc dV kV ho hd hcd hD hmg hg args vals as hpre hlay hrd hwl hlo
  obtain rfl : dV = .none := Dflts.none hD hdf
  obtain rfl : kV = .none := Dflts.noKw hD
  obtain ⟨a, vs, ns, rfl, rfl, hobj, hints, hlen⟩ := Att.script_of hn hpre hwl
  have hbits : ∀ z ∈ ns, Builtin.Int.intBits z ≤ 2 ^ 20 := fun z hz => by
    have h1 : WData.layable (WData.list (ns.map WData.int)) = true := by
      have := hlay
      simp only [WData.layableAll, List.all_cons, List.all_nil, Bool.and_true] at this
      exact this
    unfold WData.layable at h1
    have h2 : WData.weight (WData.list (ns.map WData.int)) ≤ 2 ^ 20 := by
      have := (Bool.and_eq_true_iff.mp h1).2
      exact of_decide_eq_true this
    exact Nat.le_trans (bits_weight z hz) h2
  have KX := hY w _ Y
  obtain ⟨fd, hb, hF⟩ := F w mg fa _ KX G.T.g hmg
  refine enter_call (codeAny_mono (law_call (CX := CX0) (sp := sp (K w.params)) KX G.T.g G.T.b G.T.builtins G.T.nolimit hg hobj hints (Nat.le_trans hlen (by decide)) hr hF hb (fun H _ hS => hsp _ H a ns hlen hbits hS) fun _ _ _ z => z) fun r s' hq => ?_)
  obtain ⟨rfl, h2, h3, h4⟩ := hq
  exact ⟨.inl ⟨.bool true, .bool true, [], rfl, fun _ => rfl, .bool true, Att.post_true l _, fun _ => ⟨List.Pairwise.nil, fun _ hm => (nomatch hm)⟩⟩, h2, h3, h4⟩

/-! ### arithmetic of any size -/
theorem op_mulA {X : Cx} : OpR X (binaryOp .Mult) (rI IntMulOk fun i j => .int (i * j)) := opI fun _ _ _ _ _ _ _ hc q => mul_int q hc
def CDivA (_ j : Int) : Prop := 0 < j ∧ j.natAbs.log2 < 9000
theorem op_fdivA {X : Cx} : OpR X (binaryOp .FloorDiv) (rI CDivA fun i j => .int (i / j)) := opI fun i j _ _ _ _ _ hc q => by
  refine floordiv_int (by have := hc.1; omega) ?_ (.inl (PyProof.noPylong_of_log2 hc.2))
  rw [Int.fdiv_eq_ediv_of_nonneg i (Int.le_of_lt hc.1)]
  exact q
theorem mok {i j : Int} (m n : Nat) (h1 : i.natAbs < 2 ^ m) (h2 : j.natAbs < 2 ^ n) (h : m + n ≤ 134217728) : IntMulOk i j := IntMulOk.of_le (intBits_le_iff.mpr h1) (intBits_le_iff.mpr h2) h
theorem mokS {i j : Int} (h1 : -(2 ^ 64) < j) (h2 : j < 2 ^ 64) : IntMulOk i j := .of_right (intBits_le_64 h1 h2)
theorem divA {i j : Int} (n : Nat) (h0 : 0 < j) (h : j.natAbs < 2 ^ n) (hn : n ≤ 9000) : CDivA i j := ⟨h0, Nat.lt_of_lt_of_le ((Nat.log2_lt (by omega)).mpr h) hn⟩

/-! ### isinstance -/
def rIsI (K : PySem.W.Frag) : List V → Hp → VK → Prop := fun xs H Q => ∃ x T t b, xs = [x, .ty T] ∧ TyOf K H x t ∧ PySem.W.kitOne K t (.type T) = some b ∧ Q (.bl b) H
theorem call_isI {X : Cx} : CallR X (.builtin "isinstance") (rIsI X.K) := by
  intro pins s σ H xs us Q I r h
  obtain ⟨x, T, t, b, rfl, ty, e, q⟩ := h
  obtain ⟨u, c, rfl, r1, r2⟩ := Vals.two r
  obtain rfl : c = Value.type T := r2
  exact isinst_ok I r1 ty e fun tk => ⟨.bl b, H, I.tok tk, rfl, q⟩

/-! ### readings, as equations -/
section
variable {D : Ends} {σ : St} {H : Hp} {Q : VK}
theorem tSeq_ap {t u : TS} : tSeq t u D σ H = t { D with nx := u D } σ H := rfl
theorem tIfS_ap {c : TT} {t u : TS} : tIfS c t u D σ H = c σ H fun b H1 => if b = true then t D σ H1 else u D σ H1 := rfl
theorem tAsg_ap {te : TE} {g : TG} : tAsg te g D σ H = te σ H fun x H1 => g x σ H1 D.nx := rfl
theorem gName_ap {i : Nat} {v : V} {R : St → Hp → Prop} : gName i v σ H R = R (σ.set i (some v)) H := rfl
theorem tRet_ap {te : TE} : tRet te D σ H = te σ H D.rt := rfl
theorem tRetN_ap : tRetN D σ H = D.rt .non H := rfl
theorem tNext_ap : tNext D σ H = D.nx σ H := rfl
theorem tBreak_ap : tBreak D σ H = D.bk σ H := rfl
theorem tCont_ap : tCont D σ H = D.ct σ H := rfl
theorem tDrop_ap {te : TE} : tDrop te D σ H = te σ H fun _ H1 => D.nx σ H1 := rfl
theorem tC_ap {v : V} : tC v σ H Q = Q v H := rfl
theorem tVar_ap {i : Nat} {v : V} (h : σ[i]? = some (some v)) : tVar i σ H Q = Q v H := propext ⟨fun ⟨u, e, q⟩ => by rw [h] at e; cases e; exact q, fun q => ⟨v, h, q⟩⟩
theorem tVar_0 {v : V} {l : St} : tVar 0 (some v :: l) H Q = Q v H := tVar_ap rfl
theorem tVar_s {i : Nat} {o : Option V} {l : St} : tVar (i + 1) (o :: l) H Q = tVar i l H Q := rfl
theorem tOp_ap {r : R2} {ta tb : TE} : tOp r ta tb σ H Q = ta σ H fun x H1 => tb σ H1 fun y H2 => r x y H2 Q := rfl
theorem tUn_ap {r : V → Hp → VK → Prop} {ta : TE} : tUn r ta σ H Q = ta σ H fun x H1 => r x H1 Q := rfl
theorem rI0_ap {g : Int → Int → V} {i j : Int} : rI0 g (.int i) (.int j) H Q = Q (g i j) H := propext ⟨fun ⟨a, b, e1, e2, q⟩ => by cases e1; cases e2; exact q, fun q => ⟨i, j, rfl, rfl, q⟩⟩
theorem rI_ap {C : Int → Int → Prop} {g : Int → Int → V} {i j : Int} : rI C g (.int i) (.int j) H Q = (C i j ∧ Q (g i j) H) := propext ⟨fun ⟨a, b, e1, e2, q⟩ => by cases e1; cases e2; exact q, fun q => ⟨i, j, rfl, rfl, q⟩⟩
theorem rU_ap {g : Int → V} {i : Int} : rU g (.int i) H Q = Q (g i) H := propext ⟨fun ⟨a, e1, q⟩ => by cases e1; exact q, fun q => ⟨i, rfl, q⟩⟩
theorem rEq_int {i j : Int} : rEq (.int i) (.int j) H Q = Q (.bl (decide (i = j))) H := propext ⟨fun ⟨_, q⟩ => by simpa using q, fun q => ⟨rfl, by simpa using q⟩⟩
theorem rNe_int {i j : Int} : rNe (.int i) (.int j) H Q = Q (.bl (!decide (i = j))) H := propext ⟨fun ⟨_, q⟩ => by simpa using q, fun q => ⟨rfl, by simpa using q⟩⟩
theorem tTest_ap {t : TE} {R : Bool → Hp → Prop} : tTest t σ H R = t σ H fun x H' => ∃ k, x = .bl k ∧ R k H' := rfl
theorem ex_bl {b : Bool} {R : Bool → Prop} : (∃ k, V.bl b = .bl k ∧ R k) = R b := propext ⟨fun ⟨k, e, q⟩ => by cases e; exact q, fun q => ⟨b, rfl, q⟩⟩
theorem ex_ref {a : Addr} {R : Addr → Prop} : (∃ k, V.ref a = .ref k ∧ R k) = R a := propext ⟨fun ⟨k, e, q⟩ => by cases e; exact q, fun q => ⟨a, rfl, q⟩⟩
theorem ex_int {a : Int} {R : Int → Prop} : (∃ k, V.int a = .int k ∧ R k) = R a := propext ⟨fun ⟨k, e, q⟩ => by cases e; exact q, fun q => ⟨a, rfl, q⟩⟩
theorem tAnd_ap {t u : TT} {R : Bool → Hp → Prop} : tAnd t u σ H R = t σ H fun c H1 => if c = true then u σ H1 R else R false H1 := rfl
theorem tOr_ap {t u : TT} {R : Bool → Hp → Prop} : tOr t u σ H R = t σ H fun c H1 => if c = true then R true H1 else u σ H1 R := rfl
theorem tNot_ap {t : TT} {R : Bool → Hp → Prop} : tNot t σ H R = t σ H fun c H1 => R (!c) H1 := rfl
theorem tAndV_ap {ta tb : TE} : tAndV ta tb σ H Q = ta σ H fun x H1 => ∃ c, x = .bl c ∧ if c = true then tb σ H1 Q else Q (.bl false) H1 := rfl
theorem tOrV_ap {ta tb : TE} : tOrV ta tb σ H Q = ta σ H fun x H1 => ∃ c, x = .bl c ∧ if c = true then Q (.bl true) H1 else tb σ H1 Q := rfl
theorem tNotV_ap {ta : TE} : tNotV ta σ H Q = ta σ H fun x H1 => ∃ c, x = .bl c ∧ Q (.bl (!c)) H1 := rfl
theorem tIf_ap {t : TT} {ta tb : TE} : tIf t ta tb σ H Q = t σ H fun c H1 => if c = true then ta σ H1 Q else tb σ H1 Q := rfl
theorem tNil_ap {R : List V → Hp → Prop} : tNil σ H R = R [] H := rfl
theorem tCons_ap {ta : TE} {tr : TA} {R : List V → Hp → Prop} : tCons ta tr σ H R = ta σ H fun x H1 => tr σ H1 fun xs H2 => R (x :: xs) H2 := rfl
theorem tTup_ap {t : TA} : tTup t σ H Q = t σ H fun xs H1 => xs.length ≤ sizeLine ∧ ∀ p, H1 p = none → Q (.ref p) (upd H1 p (.tup xs)) := rfl
theorem tLst_ap {t : TA} : tLst t σ H Q = t σ H fun xs H1 => xs.length ≤ sizeLine ∧ ∀ p, H1 p = none → Q (.ref p) (upd H1 p (.lst xs)) := rfl
theorem tCall_ap {sp : Sp} {dvs : List V} {E : XK} {t : TA} : tCall sp dvs E t σ H Q = t σ H fun vs H1 => sp (vs ++ dvs) H1 Q E := rfl
theorem tCB_ap {r : List V → Hp → VK → Prop} {t : TA} : tCB r t σ H Q = t σ H fun vs H1 => r vs H1 Q := rfl
theorem tChain_ap {r r' : R2} {ta tb tc : TE} : tChain r r' ta tb tc σ H Q = ta σ H fun x H1 => tb σ H1 fun y H2 => r x y H2 fun z H3 => ∃ k, z = .bl k ∧ (if k = true then tc σ H3 fun w' H4 => r' y w' H4 Q else Q (.bl false) H3) := rfl
theorem tPar_ap {i j : Nat} {ta : TA} : tPar i j ta D σ H = ta σ H fun vs H1 => ∃ v w, vs = [v, w] ∧ D.nx ((σ.set i (some v)).set j (some w)) H1 := rfl
theorem ex_two {v w : V} {R : V → V → Prop} : (∃ a b, [v, w] = [a, b] ∧ R a b) = R v w := propext ⟨fun ⟨a, b, e, q⟩ => by cases e; exact q, fun q => ⟨v, w, rfl, q⟩⟩
theorem tAug_ap {i : Nat} {te : TE} {ti : TIp} : tAug i te ti D σ H = tVar i σ H fun x _ => te σ H fun y H1 => ti x y H1 fun z H2 => D.nx (σ.set i (some z)) H2 := rfl
theorem ipI_ap {f : Int → Int → Int} {i j : Int} : ipI f (.int i) (.int j) H Q = Q (.int (f i j)) H := propext ⟨fun ⟨a, b, e1, e2, q⟩ => by cases e1; cases e2; exact q, fun q => ⟨i, j, rfl, rfl, q⟩⟩
theorem tSl_ap {r : V → Option Int → Option Int → Hp → VK → Prop} {te : TE} {tl th : TO} : tSl r te tl th σ H Q = te σ H fun x H1 => tl σ H1 fun l H2 => th σ H2 fun u H3 => r x l u H3 Q := rfl
theorem tNoPart_ap {R : Option Int → Hp → Prop} : tNoPart σ H R = R none H := rfl
theorem tPart_ap {t : TE} {R : Option Int → Hp → Prop} : tPart t σ H R = t σ H fun x H1 => ∃ i, x = .int i ∧ R (some i) H1 := rfl
theorem tBM_ap {K : PySem.W.Frag} {T : String} {r : V → List V → Hp → VK → Prop} {to : TE} {t : TA} : tBM K T r to t σ H Q = to σ H fun x H1 => tyV K T x H1 ∧ t σ H1 fun xs H2 => r x xs H2 Q := rfl
theorem tTrue_ap {R : Bool → Hp → Prop} : tTrue σ H R = R true H := rfl
theorem gSub_ap {to ti : TE} {t : TSet} {v : V} {R : St → Hp → Prop} : gSub to ti t v σ H R = to σ H fun o H1 => ti σ H1 fun i H2 => t o i v H2 fun H3 => R σ H3 := rfl
theorem ite_and {c : Prop} [Decidable c] {A B : Prop} : (if c then A else B) = ((c → A) ∧ (¬ c → B)) := by
  by_cases h : c
  · simp [h]
  · simp [h]
/-- None or a whole number -/
def oV : Option Int → V
  | some i => .int i
  | none => .non
end
end L2
namespace L2
open PySem PySem.Spec PyProof.Rows
theorem cxOf_K {CX : CXT} {P : Program} {w : World} {K : PySem.W.Frag} {mg : Str → Option Value} {base : Heap} {N : List Str} {qual : Str} {scope : Scope} {f : Addr} {cd : Value} {A : Around} {outer : List Env} {s : Shared} {H : Hp} {E : XK} : (cxOf CX P w K mg base N qual scope f cd A outer s H E).K = K := rfl
theorem cxComp_K {X : Cx} {N : List Str} {scope : Scope} {cl : List (Str × Addr)} {s : Shared} {H : Hp} {fp : List Addr} : (cxComp X N scope cl s H fp).K = X.K := rfl
section
variable {D : Ends} {σ : St} {H : Hp} {Q : VK}
def ForW (J : It) (g : TG) (tb : TS) (D : Ends) (σ : St) (H : Hp) : Prop := ∃ W : Nat → Nat → St → Hp → Prop, (∃ m, W 0 m σ H) ∧ ∀ i m σ H, W i m σ H →
  (J.stop i H ∧ D.nx σ H) ∨ (J.go i H ∧ ∃ N : St → Hp → Prop, (∀ σ' H', N σ' H' → ∃ m', m' < m ∧ W (i + 1) m' σ' H') ∧ ∀ x H', J.yld i H x H' → g x σ H' fun σ2 H2 => tb { D with nx := N, ct := N, bk := D.nx } σ2 H2)
theorem tFor_ap {wi : TI} {g : TG} {tb : TS} : tFor wi g tb D σ H = wi σ H fun J H1 => ForW J g tb D σ H1 := rfl
theorem forW_range {lo : Int} {n : Nat} {g : TG} {tb : TS} (Pv : Nat → St → Hp → Prop) (h0 : Pv 0 σ H)
    (hs : ∀ i σ H, i < n → Pv i σ H → g (.int (lo + i)) σ H fun σ2 H2 => tb { D with nx := Pv (i + 1), ct := Pv (i + 1), bk := D.nx } σ2 H2) (hd : ∀ σ H, Pv n σ H → D.nx σ H) : ForW (Itr lo n) g tb D σ H := for_range Pv h0 hs hd
theorem forW_list {K : PySem.W.Frag} {a : Addr} {xs : List V} {g : TG} {tb : TS} (Pv : Nat → St → Hp → Prop) (h0 : Pv 0 σ H) (hl : ∀ i σ H, i ≤ xs.length → Pv i σ H → SqL K H a xs)
    (hs : ∀ i x σ H, xs[i]? = some x → Pv i σ H → g x σ H fun σ2 H2 => tb { D with nx := Pv (i + 1), ct := Pv (i + 1), bk := D.nx } σ2 H2) (hd : ∀ σ H, Pv xs.length σ H → D.nx σ H) : ForW (Itl K a) g tb D σ H := for_list Pv h0 hl hs hd
theorem forW_tup {K : PySem.W.Frag} {a : Addr} {xs : List V} {g : TG} {tb : TS} (Pv : Nat → St → Hp → Prop) (h0 : Pv 0 σ H) (hl : ∀ i σ H, i ≤ xs.length → Pv i σ H → SqT K H a xs)
    (hs : ∀ i x σ H, xs[i]? = some x → Pv i σ H → g x σ H fun σ2 H2 => tb { D with nx := Pv (i + 1), ct := Pv (i + 1), bk := D.nx } σ2 H2) (hd : ∀ σ H, Pv xs.length σ H → D.nx σ H) : ForW (Itt K a) g tb D σ H := for_tup Pv h0 hl hs hd
theorem iRng1_ap {ta : TA} {R : It → Hp → Prop} : iRng1 ta σ H R = ta σ H fun vs H1 => ∃ j : Int, vs = [.int j] ∧ -(2 ^ 62) ≤ j ∧ j < 2 ^ 62 ∧ R (Itr 0 j.toNat) H1 := rfl
theorem iRng2_ap {ta : TA} {R : It → Hp → Prop} : iRng2 ta σ H R = ta σ H fun vs H1 => ∃ i j : Int, vs = [.int i, .int j] ∧ (-(2 ^ 62) ≤ i ∧ i < 2 ^ 62 ∧ -(2 ^ 62) ≤ j ∧ j < 2 ^ 62) ∧ R (Itr i (j - i).toNat) H1 := rfl
theorem iList_ap {K : PySem.W.Frag} {tl : TE} {R : It → Hp → Prop} : iList K tl σ H R = tl σ H fun x H1 => ∃ a, x = .ref a ∧ (∃ xs, SqL K H1 a xs) ∧ R (Itl K a) H1 := rfl
theorem iTup_ap {K : PySem.W.Frag} {tl : TE} {R : It → Hp → Prop} : iTup K tl σ H R = tl σ H fun x H1 => ∃ a, x = .ref a ∧ (∃ xs, SqT K H1 a xs) ∧ R (Itt K a) H1 := rfl
def CompW (J : It) (g : TG) (tt : TT) (te : TE) (own : List Str) (fr : List Nat) (σ : St) (H1 : Hp) (Q : VK) : Prop := ∀ D, H1 D = none → ∃ W : Nat → Nat → St → Hp → Prop, (∃ m, W 0 m (st0 own fr σ) (upd H1 D (.lst []))) ∧ ∀ i m σc H, W i m σc H →
  (J.stop i H ∧ Q (.ref D) H) ∨ (J.go i H ∧ ∃ N : St → Hp → Prop, (∀ σ' H', N σ' H' → ∃ m', m' < m ∧ W (i + 1) m' σ' H') ∧ ∀ x H', J.yld i H x H' → g x σc H' fun σ2 H2 => tt σ2 H2 fun b H3 =>
    if b = true then te σ2 H3 fun y H4 => ∃ ys, H4 D = some (.lst ys) ∧ ys.length < sizeLine ∧ N σ2 (upd H4 D (.lst (ys ++ [y]))) else N σ2 H3)
theorem tComp_ap {wi : TI} {g : TG} {tt : TT} {te : TE} {own : List Str} {fr : List Nat} : tComp wi g tt te own fr σ H Q = wi σ H fun J H1 => CompW J g tt te own fr σ H1 Q := rfl
/-! ### lists of whole numbers -/
theorem rIxL_mk {K : PySem.W.Frag} {p : Addr} {xs : List V} {i : Int} {v : V} (h : SqL K H p xs) (e : atI xs i = some v) (q : Q v H) : rIxL K (.ref p) (.int i) H Q := ⟨p, xs, i, v, rfl, rfl, h, e, q⟩
theorem atI_getD {zs : List Int} {i : Int} (h0 : 0 ≤ i) (h1 : i < zs.length) : atI (zs.map V.int) i = some (.int (zs.getD i.toNat 0)) := by
  have hk : i.toNat < zs.length := by omega
  have ek : i = ((i.toNat : Nat) : Int) := by omega
  have q : atI (zs.map V.int) ((i.toNat : Nat) : Int) = some (.int (zs.getD i.toNat 0)) := atI_nat (by rw [List.getElem?_map, List.getElem?_eq_getElem hk, List.getD_eq_getElem?_getD, List.getElem?_eq_getElem hk]; rfl)
  rw [← ek] at q
  exact q
theorem Same.write {H H' : Hp} (g : Same H H') {p : Addr} (n : H p = none) (o : HO) : Same H (upd H' p o) := fun b u e => by rw [upd_ne (ne_of_none e n)]; exact g b u e
theorem gCons_ap {t : TG} {u : TGs} {v : V} {r : List V} {R : St → Hp → Prop} : gCons t u (v :: r) σ H R = t v σ H fun σ' H' => u r σ' H' R := propext ⟨fun ⟨a, b, e, q⟩ => by cases e; exact q, fun q => ⟨v, r, rfl, q⟩⟩
theorem gNil_ap {R : St → Hp → Prop} : gNil [] σ H R = R σ H := propext ⟨fun ⟨_, q⟩ => q, fun q => ⟨rfl, q⟩⟩
theorem tB_ap {t : TE} {R : Bool → Hp → Prop} : tB t σ H R = t σ H fun x H1 => ∃ c, x = .bl c ∧ R c H1 := rfl
theorem same_new {H : Hp} {p : Addr} (h : H p = none) (o : HO) : Same H (upd H p o) := fun b u q => by rw [upd_ne (ne_of_none q h)]; exact q
end
end L2
namespace L2
open PySem PySem.Spec PyProof.Rows
/-! ### for x in reversed(list) -/
def Itv (K : PySem.W.Frag) (a : Addr) (n : Nat) : It :=
  ⟨fun i H => i < n ∧ ∃ xs, SqL K H a xs ∧ xs.length = n, fun i H x H' => H' = H ∧ ∀ xs, SqL K H a xs → xs[n - 1 - i]? = some x, fun i _ => i = n⟩
def iRev (K : PySem.W.Frag) (ta : TE) : TI := fun σ H R => ta σ H fun x H1 => ∃ a xs, x = .ref a ∧ SqL K H1 a xs ∧ R (Itv K a xs.length) H1
section
variable {X : Cx} {tg : Expr}
end
theorem iRev_ap {K : PySem.W.Frag} {tl : TE} {σ : St} {H : Hp} {R : It → Hp → Prop} : iRev K tl σ H R = tl σ H fun x H1 => ∃ a xs, x = .ref a ∧ SqL K H1 a xs ∧ R (Itv K a xs.length) H1 := rfl
end L2
namespace L2
open PySem PySem.Spec PyProof.Rows
/-! ### a statement cut off from what follows -/
def tCut (t : TS) : TS := fun D σ H => ∃ M : St → Hp → Prop, t { D with nx := M } σ H ∧ ∀ σ' H', M σ' H' → D.nx σ' H'
theorem ps_cut {X : Cx} {st : Stmt} {t : TS} (h : PS X st t) : PS X st (tCut t) := by
  intro pins s σ H D I hw
  obtain ⟨M, h1, h2⟩ := hw
  refine thn (h pins s σ H _ I h1) fun f s1 q => ?_
  cases f with
  | next => obtain ⟨σ', H', I', q⟩ := q; exact ⟨σ', H', I', h2 σ' H' q⟩
  | ret v => exact q
  | brk => exact q
  | cont => exact q
/-! ### two lists of whole numbers compared -/
section
variable {X : Cx}
end
theorem isI_ii {K : PySem.W.Frag} {H : Hp} {Q : VK} {d : Int} : rIsI K [.int d, .ty "int"] H Q = Q (.bl true) H := propext ⟨fun ⟨x, T, t, b, e, ty, k, q⟩ => by
    cases e
    cases ty
    have : PySem.W.kitOne K (.type "int") (.type "int") = some true := rfl
    rw [this] at k
    cases k
    exact q, fun q => ⟨_, _, _, true, rfl, .int d, rfl, q⟩⟩
theorem isI_ib {K : PySem.W.Frag} {H : Hp} {Q : VK} {d : Int} : rIsI K [.int d, .ty "bool"] H Q = Q (.bl false) H := propext ⟨fun ⟨x, T, t, b, e, ty, k, q⟩ => by
    cases e
    cases ty
    have : PySem.W.kitOne K (.type "int") (.type "bool") = some false := rfl
    rw [this] at k
    cases k
    exact q, fun q => ⟨_, _, _, false, rfl, .int d, rfl, q⟩⟩
theorem isI_ni {K : PySem.W.Frag} {H : Hp} {Q : VK} : rIsI K [.non, .ty "int"] H Q = Q (.bl false) H := propext ⟨fun ⟨x, T, t, b, e, ty, k, q⟩ => by
    cases e
    cases ty
    have : PySem.W.kitOne K (.type "NoneType") (.type "int") = some false := rfl
    rw [this] at k
    cases k
    exact q, fun q => ⟨_, _, _, false, rfl, .non, rfl, q⟩⟩
theorem isI_bb {K : PySem.W.Frag} {H : Hp} {Q : VK} {d : Bool} : rIsI K [.bl d, .ty "bool"] H Q = Q (.bl true) H := propext ⟨fun ⟨x, T, t, b, e, ty, k, q⟩ => by
    cases e
    cases ty
    have : PySem.W.kitOne K (.type "bool") (.type "bool") = some true := rfl
    rw [this] at k
    cases k
    exact q, fun q => ⟨_, _, _, true, rfl, .bl d, rfl, q⟩⟩
end L2
namespace L2
open PySem PySem.Spec PyProof.Rows
/-! ### list(reversed(list)) -/
section
variable {prog : Program} {w : World} {A : Around} {E : Value → Shared → Prop} {s : Shared}
end
def tListRev (K : PySem.W.Frag) (tl : TE) : TE := fun σ H Q => tl σ H fun x H1 => ∃ a xs, x = .ref a ∧ SqL K H1 a xs ∧ ∀ d, H1 d = none → Q (.ref d) (upd H1 d (.lst xs.reverse))
section
variable {X : Cx}
end
theorem tListRev_ap {K : PySem.W.Frag} {tl : TE} {σ : St} {H : Hp} {Q : VK} : tListRev K tl σ H Q = tl σ H fun x H1 => ∃ a xs, x = .ref a ∧ SqL K H1 a xs ∧ ∀ d, H1 d = none → Q (.ref d) (upd H1 d (.lst xs.reverse)) := rfl
end L2
namespace L2
open PySem PySem.Spec PyProof.Rows
/-! ### data that lie in the heap, compared deeply -/
mutual
inductive DD (K : PySem.W.Frag) (H : Hp) : V → PyData → Prop where
  | non : DD K H .non .none
  | bl (b : Bool) : DD K H (.bl b) (.bool b)
  | int (i : Int) : DD K H (.int i) (.int i)
  | str (x : Str) : DD K H (.str x) (.str x)
  | lst {a : Addr} {xs : List V} {ds : List PyData} : SqL K H a xs → DDs K H xs ds → DD K H (.ref a) (.list ds)
  | tup {a : Addr} {xs : List V} {ds : List PyData} : SqT K H a xs → DDs K H xs ds → DD K H (.ref a) (.tuple ds)
inductive DDs (K : PySem.W.Frag) (H : Hp) : List V → List PyData → Prop where
  | nil : DDs K H [] []
  | cons {x : V} {xs : List V} {d : PyData} {ds : List PyData} : DD K H x d → DDs K H xs ds → DDs K H (x :: xs) (d :: ds)
end
section
variable {X : Cx} {pins : List (Addr × Obj)} {σ : St} {H : Hp} {s : Shared}
mutual
theorem DD.reads (I : Inv X pins σ H s) : ∀ {v : V} {d : PyData} {u : Value}, DD X.K H v d → RelV v u → ∃ as, Reads s.heap u d as
  | _, _, _, .non, r => by cases r; exact ⟨_, .none⟩
  | _, _, _, .bl b, r => by cases r; exact ⟨_, .bool b⟩
  | _, _, _, .int i, r => by obtain ⟨t, rfl⟩ := r; exact ⟨_, .int i t⟩
  | _, _, _, .str x, r => by obtain ⟨t, rfl⟩ := r; exact ⟨_, .str x t⟩
  | _, _, _, .lst h hs, r => by
    cases r
    obtain ⟨its, rv, p, _⟩ := I.list h
    obtain ⟨as, ra⟩ := DDs.reads I hs rv
    obtain ⟨o, ho, hc, n, hd⟩ := p.isList
    exact ⟨_, .list ho hc hd ra⟩
  | _, _, _, .tup h hs, r => by
    cases r
    obtain ⟨its, rv, p, _⟩ := I.tuple h
    obtain ⟨as, ra⟩ := DDs.reads I hs rv
    obtain ⟨o, ho, hc, n, hd⟩ := p
    exact ⟨_, .tuple ho hc hd ra⟩
theorem DDs.reads (I : Inv X pins σ H s) : ∀ {vs : List V} {ds : List PyData} {us : List Value}, DDs X.K H vs ds → Vals vs us → ∃ as, ReadsAll s.heap us ds as
  | _, _, _, .nil, .nil => ⟨_, .nil⟩
  | _, _, _, .cons h hs, .cons r rs => by
    obtain ⟨as, ra⟩ := DD.reads I h r
    obtain ⟨bs, rb⟩ := DDs.reads I hs rs
    exact ⟨_, .cons ra rb⟩
end
end
theorem Same.seqT {K : PySem.W.Frag} {H H' : Hp} {a : Addr} {xs : List V} (e : Same H H') (h : SqT K H a xs) : SqT K H' a xs := by
  rcases h with (h | ⟨o, h⟩) | h
  · exact .inl (.inl (e _ _ h))
  · exact .inl (.inr ⟨o, e _ _ h⟩)
  · exact .inr h
mutual
theorem DD.mono {K : PySem.W.Frag} {H H' : Hp} (g : Same H H') : ∀ {v : V} {d : PyData}, DD K H v d → DD K H' v d
  | _, _, .non => .non
  | _, _, .bl b => .bl b
  | _, _, .int i => .int i
  | _, _, .str x => .str x
  | _, _, .lst h hs => .lst (g.seq h) (DDs.mono g hs)
  | _, _, .tup h hs => .tup (Same.seqT g h) (DDs.mono g hs)
theorem DDs.mono {K : PySem.W.Frag} {H H' : Hp} (g : Same H H') : ∀ {vs : List V} {ds : List PyData}, DDs K H vs ds → DDs K H' vs ds
  | _, _, .nil => .nil
  | _, _, .cons h hs => .cons (DD.mono g h) (DDs.mono g hs)
end
def rNeD (K : PySem.W.Frag) : R2 := fun x y H Q => ∃ d e : PyData, DD K H x d ∧ DD K H y e ∧ SeqAt.shaped d = true ∧ SeqAt.shaped e = true ∧ Q (.bl (!PyData.eqv d e)) H
section
variable {X : Cx}
theorem op_neD (hu : X.A.units + 64 < cLine) : OpR X (compareOp .NotEq) (rNeD X.K) := by
  intro pins s σ H x y v u Q I rx ry h
  obtain ⟨d, e, hd, he, sd, se, q⟩ := h
  obtain ⟨as, ra⟩ := hd.reads I rx
  obtain ⟨bs, rb⟩ := he.reads I ry
  exact ne_dataH ra rb sd se hu ⟨.bl _, H, I, rfl, q⟩
/-! ### list + list, lists of the world too -/
/-! ### x is True, x is not False -/
end
end L2
namespace L2
open PySem PySem.Spec PyProof.Rows
/-! ### min and max of a list, with a default -/

section
variable {prog : Program} {w : World} {B : Around} {it : Addr} {fp wr : List Addr} {GG : Array GenState → Array GenState → Prop} {n : Nat} {PV : Nat → Value → Prop} {SV : Nat → Shared → Prop} {RR : Result → Shared → Prop}
end
/-- min(list, default = e) of whole numbers -/
def tMinD (K : PySem.W.Frag) (tl td : TE) : TE := fun σ H Q => tl σ H fun x H1 => td σ H1 fun d H2 => ∃ (a : Addr) (ns : List Int), x = .ref a ∧ SqL K H2 a (ns.map V.int) ∧ (ns = [] → Q d H2) ∧ ∀ M, M ∈ ns → (∀ z ∈ ns, M ≤ z) → Q (.int M) H2
section
variable {X : Cx}
end
theorem tMinD_ap {K : PySem.W.Frag} {tl td : TE} {σ : St} {H : Hp} {Q : VK} : tMinD K tl td σ H Q = tl σ H fun x H1 => td σ H1 fun d H2 => ∃ (a : Addr) (ns : List Int), x = .ref a ∧ SqL K H2 a (ns.map V.int) ∧ (ns = [] → Q d H2) ∧ ∀ M, M ∈ ns → (∀ z ∈ ns, M ≤ z) → Q (.int M) H2 := rfl

section
variable {prog : Program} {w : World} {B : Around} {it : Addr} {fp wr : List Addr} {GG : Array GenState → Array GenState → Prop} {n : Nat} {PV : Nat → Value → Prop} {SV : Nat → Shared → Prop} {RR : Result → Shared → Prop}
end
/-- max(list, default = e) of whole numbers -/
def tMaxD (K : PySem.W.Frag) (tl td : TE) : TE := fun σ H Q => tl σ H fun x H1 => td σ H1 fun d H2 => ∃ (a : Addr) (ns : List Int), x = .ref a ∧ SqL K H2 a (ns.map V.int) ∧ (ns = [] → Q d H2) ∧ ∀ M, M ∈ ns → (∀ z ∈ ns, z ≤ M) → Q (.int M) H2
section
variable {X : Cx}
end
theorem tMaxD_ap {K : PySem.W.Frag} {tl td : TE} {σ : St} {H : Hp} {Q : VK} : tMaxD K tl td σ H Q = tl σ H fun x H1 => td σ H1 fun d H2 => ∃ (a : Addr) (ns : List Int), x = .ref a ∧ SqL K H2 a (ns.map V.int) ∧ (ns = [] → Q d H2) ∧ ∀ M, M ∈ ns → (∀ z ∈ ns, z ≤ M) → Q (.int M) H2 := rfl
end L2
namespace L2
open PySem PySem.Spec PyProof.Rows
/-! ### a comprehension that captures names of the def -/
def CapOk (X : Cx) (scope : Scope) : List Str → List Nat → List (Str × Addr) → Prop
  | [], [], [] => True
  | y :: ys, j :: js, (n, a) :: r => n = y ∧ X.N[j]? = some y ∧ X.env.scope.names.lookup y = some .cell ∧ X.env.cells.lookup y = some a ∧ scope.names.lookup y = some .free ∧ CapOk X scope ys js r
  | _, _, _ => False
theorem CapOk.inn {X : Cx} {scope : Scope} : ∀ {ys : List Str} {js : List Nat} {cl : List (Str × Addr)}, CapOk X scope ys js cl → ∀ y c, cl.lookup y = some c → X.env.cells.lookup y = some c
  | [], [], [], _, y, c, e => nomatch e
  | y :: ys, j :: js, (n, a) :: r, ⟨hn, _, _, h, _, t⟩, z, c, e => by
    subst hn
    rw [List.lookup_cons] at e
    cases q : z == n with
    | true =>
      rw [q] at e
      have : z = n := by simpa using q
      subst this
      exact h.trans e
    | false =>
      rw [q] at e
      exact CapOk.inn t z c e
theorem CapOk.mem {X : Cx} {scope : Scope} : ∀ {ys : List Str} {js : List Nat} {cl : List (Str × Addr)}, CapOk X scope ys js cl → ∀ y ∈ ys, ∃ c, cl.lookup y = some c
  | [], [], [], _, y, h => nomatch h
  | y :: ys, j :: js, (n, a) :: r, ⟨hn, _, _, _, _, t⟩, z, e => by
    subst hn
    rw [List.lookup_cons]
    cases q : z == n with
    | true => exact ⟨_, rfl⟩
    | false =>
      rcases List.mem_cons.mp e with e | e
      · subst e; simp at q
      · exact CapOk.mem t z e
theorem CapOk.len {X : Cx} {scope : Scope} : ∀ {ys : List Str} {js : List Nat} {cl : List (Str × Addr)}, CapOk X scope ys js cl → ys.length = js.length
  | [], [], [], _ => rfl
  | _ :: _, _ :: _, (_, _) :: _, ⟨_, _, _, _, _, t⟩ => congrArg (· + 1) (CapOk.len t)
theorem CapOk.at {X : Cx} {scope : Scope} : ∀ {ys : List Str} {js : List Nat} {cl : List (Str × Addr)}, CapOk X scope ys js cl → ∀ (k : Nat) (y : Str), ys[k]? = some y →
    ∃ j, js[k]? = some j ∧ X.N[j]? = some y ∧ X.env.scope.names.lookup y = some .cell ∧ scope.names.lookup y = some .free
  | [], [], [], _, k, y, e => by simp at e
  | y :: ys, j :: js, (n, a) :: r, ⟨hn, h1, h2, _, h3, t⟩, k, z, e => by
    subst hn
    cases k with
    | zero => cases e; exact ⟨j, rfl, h1, h2, h3⟩
    | succ k => exact CapOk.at t k z e
theorem lookup_mem {α : Type} : ∀ {l : List (Str × α)} {y : Str} {k : α}, l.lookup y = some k → (y, k) ∈ l
  | [], _, _, e => nomatch e
  | (n, q) :: r, y, k, e => by
    rw [List.lookup_cons] at e
    cases hy : y == n with
    | true =>
      rw [hy] at e
      have : y = n := by simpa using hy
      subst this
      cases e
      exact .head _
    | false =>
      rw [hy] at e
      exact .tail _ (lookup_mem e)
theorem relabel_free {env : Env} : ∀ {names : List (Str × NameKind)} {x : Str}, names.lookup x = some .free →
    (names.map fun (n, k) => if (k == NameKind.free && env.scope.kind == .function && env.kindOf n == some .cell) then (n, NameKind.cell) else (n, k)).lookup x = some .cell ∨
    (names.map fun (n, k) => if (k == NameKind.free && env.scope.kind == .function && env.kindOf n == some .cell) then (n, NameKind.cell) else (n, k)).lookup x = some .free
  | [], _, h => nomatch h
  | (n, k) :: r, x, h => by
    rw [List.lookup_cons] at h
    rw [List.map_cons]
    cases hy : x == n with
    | true =>
      rw [hy] at h
      cases h
      dsimp only
      split
      · left; rw [List.lookup_cons, hy]
      · right; rw [List.lookup_cons, hy]
    | false =>
      rw [hy] at h
      have ih := relabel_free (env := env) h
      dsimp only
      split
      · rw [List.lookup_cons, hy]; exact ih
      · rw [List.lookup_cons, hy]; exact ih
theorem CompSc.capt {X : Cx} {own capt : List Str} {scope : Scope} {cl : List (Str × Addr)} {fr : List Nat} (clo : closureFor scope X.env = pure cl) (ok : CapOk X scope capt fr cl) (h1 : ∀ z ∈ scope.names, z.2 = .free → z.1 ∈ capt)
    (h2 : ∀ y ∈ scope.names, y.2 ≠ .cell) (kind : scope.kind = .function) (names : ∀ y ∈ scope.names, y.2 = .local → scope.names.lookup y.1 = some .local) : CompSc X own capt scope cl fr where
  clos := clo
  nocell := h2
  kind := kind
  names := names
  inn := ok.inn
  has := fun y e => by
    refine ok.mem y ?_
    have key : ∃ k, (y, k) ∈ (relabel scope X.env).names ∧ (k = .cell ∨ k = .free) := by
      rcases e with e | e
      · exact ⟨_, lookup_mem e, .inl rfl⟩
      · exact ⟨_, lookup_mem e, .inr rfl⟩
    obtain ⟨k, hm, hk⟩ := key
    unfold relabel at hm
    obtain ⟨⟨n, k0⟩, h3, h4⟩ := List.mem_map.mp hm
    have h5 : n = y ∧ k0 = .free := by
      dsimp only at h4
      split at h4
      · rename_i c
        cases h4
        simp only [Bool.and_eq_true, beq_iff_eq] at c
        exact ⟨rfl, c.1.1⟩
      · cases h4
        rcases hk with rfl | rfl
        · exact absurd rfl (h2 _ h3)
        · exact ⟨rfl, rfl⟩
    obtain ⟨rfl, rfl⟩ := h5
    exact h1 _ h3 rfl
  cap := fun k y e => by
    obtain ⟨j, e1, e2, e3, e4⟩ := ok.at k y e
    obtain ⟨c, hc⟩ := ok.mem y (List.mem_of_getElem? e)
    exact ⟨j, c, e1, e2, e3, hc, relabel_free e4⟩
  len := ok.len
end L2
namespace SM
/-! the greatest divisor -/
def gcdI (a b : Int) : Int := (Int.gcd a b : Int)
theorem gcdI_zero {a : Int} (h : 0 ≤ a) : gcdI a 0 = a := by
  unfold gcdI; rw [Int.gcd_zero_right]; omega
theorem gcdI_step (a b : Int) : gcdI b (a % b) = gcdI a b := by
  unfold gcdI
  have e : a = b * (a / b) + a % b := (Int.mul_ediv_add_emod a b).symm
  have : Int.gcd a b = Int.gcd (a % b) b := by
    conv => lhs; rw [e]
    rw [Int.gcd_mul_left_add_left]
  rw [this, Int.gcd_comm]
theorem gcdI_dvd_left (a b : Int) : gcdI a b ∣ a := Int.gcd_dvd_left ..
theorem gcdI_dvd_right (a b : Int) : gcdI a b ∣ b := Int.gcd_dvd_right ..
theorem gcdI_pos {a b : Int} (h : a ≠ 0 ∨ b ≠ 0) : 0 < gcdI a b := by
  unfold gcdI
  rcases h with h | h
  · have := Int.gcd_pos_of_ne_zero_left b h; omega
  · have := Int.gcd_pos_of_ne_zero_right a h; omega
theorem gcdI_le_left {a : Int} (b : Int) (h : 0 < a) : gcdI a b ≤ a := Int.gcd_le_left b h
theorem bezout (a b : Int) (ha : 0 ≤ a) (hb : 0 ≤ b) : ∃ x y, gcdI a b = a * x + b * y := by
  by_cases h : b = 0
  · subst h; exact ⟨1, 0, by rw [gcdI_zero ha]; omega⟩
  · have m1 := Int.emod_nonneg a h
    have m2 := Int.emod_lt_of_pos a (show 0 < b by omega)
    obtain ⟨x, y, e⟩ := bezout b (a % b) hb m1
    refine ⟨y, x - (a / b) * y, ?_⟩
    rw [← gcdI_step, e]
    have q := Int.mul_ediv_add_emod a b
    have : a * y = b * (a / b) * y + a % b * y := by rw [← Int.add_mul, q]
    rw [Int.mul_sub, ← Int.mul_assoc]
    omega
termination_by b.toNat
decreasing_by omega
/-! the least round -/
end SM
namespace SM

/-! rounded up -/
def cdiv (n b : Int) : Int := -((-n) / b)
theorem cdiv_spec {n b : Int} (hb : 0 < b) : n ≤ b * cdiv n b ∧ b * cdiv n b < n + b := by
  unfold cdiv
  have h1 := Int.mul_ediv_add_emod (-n) b
  have h2 := Int.emod_nonneg (-n) (show b ≠ 0 by omega)
  have h3 := Int.emod_lt_of_pos (-n) hb
  rw [Int.mul_neg]
  omega
theorem cdiv_le {n b k : Int} (hb : 0 < b) (h : n ≤ b * k) : cdiv n b ≤ k := by
  have := (cdiv_spec (n := n) hb).2
  by_cases c : cdiv n b ≤ k
  · exact c
  · exfalso
    have h1 : k + 1 ≤ cdiv n b := by omega
    have h2 := Int.mul_le_mul_of_nonneg_left h1 (Int.le_of_lt hb)
    rw [Int.mul_add, Int.mul_one] at h2
    omega
theorem cdiv_nonneg {n b : Int} (hb : 0 < b) (h : 0 ≤ n) : 0 ≤ cdiv n b := by
  have h1 := (cdiv_spec (n := n) hb).1
  by_cases c : 0 ≤ cdiv n b
  · exact c
  · exfalso
    have h2 := Int.mul_le_mul_of_nonneg_left (show cdiv n b ≤ -1 by omega) (Int.le_of_lt hb)
    rw [Int.mul_neg, Int.mul_one] at h2
    omega

/-! one level: a i leaves from lo to lo + n - 1 by w -/
def hitF (w a lo n : Int) : Option Int :=
  if h : a ≤ 0 then none
  else if a * cdiv lo a ≤ lo + n - 1 then some (cdiv lo a)
  else (hitF a (w % a) ((-(lo + n - 1)) % a) n).map fun j => cdiv (w * j + lo) a
termination_by a.toNat
decreasing_by
  have h1 := Int.emod_nonneg w (show a ≠ 0 by omega)
  have h2 := Int.emod_lt_of_pos w (show 0 < a by omega)
  omega
def Hits (w a lo n i : Int) : Prop := (a * i - lo) % w < n
def LeastOf (p : Int → Prop) : Option Int → Prop
  | some i => 0 ≤ i ∧ p i ∧ ∀ k, 0 ≤ k → k < i → ¬ p k
  | none => ∀ k, 0 ≤ k → ¬ p k
theorem LeastOf.uniq {p q : Int → Prop} (e : ∀ k, 0 ≤ k → (p k ↔ q k)) {r t : Option Int} (h : LeastOf p r) (g : LeastOf q t) : r = t := by
  cases r with
  | none => cases t with
    | none => rfl
    | some j => exact absurd ((e j g.1).mpr g.2.1) (h j g.1)
  | some i => cases t with
    | none => exact absurd ((e i h.1).mp h.2.1) (g i h.1)
    | some j =>
      have h1 := h.2.2 j g.1
      have h2 := g.2.2 i h.1
      have h3 := (e j g.1).mpr g.2.1
      have h4 := (e i h.1).mp h.2.1
      have : i = j := by
        rcases Int.lt_trichotomy i j with c | c | c
        · exact absurd h4 (h2 c)
        · exact c
        · exact absurd h3 (h1 c)
      rw [this]
/-- a number that leaves less than n, from its quotient -/
theorem mod_lt_iff {x w n : Int} (hw : 0 < w) (hn : n ≤ w) : x % w < n ↔ ∃ j, w * j ≤ x ∧ x < w * j + n := by
  have h1 := Int.mul_ediv_add_emod x w
  have h2 := Int.emod_nonneg x (show w ≠ 0 by omega)
  have h3 := Int.emod_lt_of_pos x hw
  constructor
  · intro h
    exact ⟨x / w, by omega, by omega⟩
  · rintro ⟨j, a, b⟩
    have e : x % w = x - w * j := by
      have z : (x - w * j) % w = x - w * j := Int.emod_eq_of_lt (by omega) (by omega)
      rw [Int.sub_mul_emod_self_left] at z
      exact z
    omega
theorem hitF_none {w a lo n : Int} (h : a ≤ 0) : hitF w a lo n = none := by rw [hitF, dif_pos h]
theorem hitF_here {w a lo n : Int} (h : 0 < a) (h2 : a * cdiv lo a ≤ lo + n - 1) : hitF w a lo n = some (cdiv lo a) := by rw [hitF, dif_neg (by omega), if_pos h2]
theorem hitF_deep {w a lo n : Int} (h : 0 < a) (h2 : ¬ a * cdiv lo a ≤ lo + n - 1) : hitF w a lo n = (hitF a (w % a) ((-(lo + n - 1)) % a) n).map fun j => cdiv (w * j + lo) a := by
  rw [hitF, dif_neg (by omega), if_neg h2]
structure Lvl (w a lo n : Int) : Prop where
  a0 : 0 ≤ a
  aw : a < w
  n1 : 1 ≤ n
  l1 : 1 ≤ lo
  l2 : lo + n ≤ w
/-- the next level is a level -/
theorem Lvl.down {w a lo n : Int} (L : Lvl w a lo n) (h : 0 < a) (h2 : ¬ a * cdiv lo a ≤ lo + n - 1) : Lvl a (w % a) ((-(lo + n - 1)) % a) n := by
  obtain ⟨a0, aw, n1, l1, l2⟩ := L
  have c1 := cdiv_spec (n := lo) h
  have e1 := Int.emod_nonneg w (show a ≠ 0 by omega)
  have e2 := Int.emod_lt_of_pos w h
  have m1 := Int.emod_nonneg (-(lo + n - 1)) (show a ≠ 0 by omega)
  have m2 := Int.emod_lt_of_pos (-(lo + n - 1)) h
  have m3 := Int.mul_ediv_add_emod (-(lo + n - 1)) a
  generalize hq : (-(lo + n - 1)) / a = q at m3
  generalize (-(lo + n - 1)) % a = r at m1 m2 m3 ⊢
  -- a (cdiv - 1) < lo, lo + n ≤ a cdiv
  have k : -q = cdiv lo a ∨ -q ≠ cdiv lo a := by omega
  -- -q * a = lo + n - 1 + r
  have e : a * (-q) = lo + n - 1 + r := by rw [Int.mul_neg]; omega
  have cq : cdiv lo a ≤ -q := cdiv_le h (by omega)
  have cq2 : -q ≤ cdiv lo a := by
    by_cases z : -q ≤ cdiv lo a
    · exact z
    · exfalso
      have := Int.mul_le_mul_of_nonneg_left (show cdiv lo a + 1 ≤ -q by omega) (Int.le_of_lt h)
      rw [Int.mul_add, Int.mul_one] at this
      omega
  have cq3 : -q = cdiv lo a := by omega
  rw [cq3] at e
  exact ⟨e1, e2, n1, by omega, by omega⟩
/-- hits of a level by hits of the next -/
theorem hits_down {w a lo n : Int} (L : Lvl w a lo n) (h : 0 < a) {j : Int} : Hits a (w % a) ((-(lo + n - 1)) % a) n j ↔ ∃ i, w * j + lo ≤ a * i ∧ a * i ≤ w * j + lo + n - 1 := by
  obtain ⟨a0, aw, n1, l1, l2⟩ := L
  unfold Hits
  have e : (w % a * j - (-(lo + n - 1)) % a) % a = (w * j + (lo + n - 1)) % a := by
    have x1 := Int.mul_ediv_add_emod w a
    have x2 := Int.mul_ediv_add_emod (-(lo + n - 1)) a
    generalize hq1 : w / a = q1 at x1
    generalize hq2 : (-(lo + n - 1)) / a = q2 at x2
    generalize hr1 : w % a = r1 at x1 ⊢
    generalize hr2 : (-(lo + n - 1)) % a = r2 at x2 ⊢
    have : w * j + (lo + n - 1) = (r1 * j - r2) + a * (q1 * j - q2) := by
      rw [← x1, Int.mul_sub, Int.add_mul, Int.mul_assoc]; omega
    rw [this, Int.add_mul_emod_self_left]
  rw [e]
  constructor
  · intro z
    have x1 := Int.mul_ediv_add_emod (w * j + (lo + n - 1)) a
    have x2 := Int.emod_nonneg (w * j + (lo + n - 1)) (show a ≠ 0 by omega)
    exact ⟨(w * j + (lo + n - 1)) / a, by omega, by omega⟩
  · rintro ⟨i, i1, i2⟩
    by_cases na : n ≤ a
    · exact (mod_lt_iff h na).mpr ⟨i, by omega, by omega⟩
    · have := Int.emod_lt_of_pos (w * j + (lo + n - 1)) h
      omega
theorem hits_iff {w a lo n : Int} (L : Lvl w a lo n) {i : Int} (hi : 0 ≤ i) : Hits w a lo n i ↔ ∃ j, 0 ≤ j ∧ w * j + lo ≤ a * i ∧ a * i ≤ w * j + lo + n - 1 := by
  obtain ⟨a0, aw, n1, l1, l2⟩ := L
  unfold Hits
  rw [mod_lt_iff (by omega) (by omega)]
  constructor
  · rintro ⟨j, j1, j2⟩
    refine ⟨j, ?_, by omega, by omega⟩
    have p := Int.mul_nonneg a0 hi
    by_cases c : 0 ≤ j
    · exact c
    · exfalso
      have := Int.mul_le_mul_of_nonneg_left (show j ≤ -1 by omega) (show (0 : Int) ≤ w by omega)
      rw [Int.mul_neg, Int.mul_one] at this
      omega
  · rintro ⟨j, _, j1, j2⟩
    exact ⟨j, by omega, by omega⟩
theorem hitF_least {w a lo n : Int} (L : Lvl w a lo n) : LeastOf (Hits w a lo n) (hitF w a lo n) := by
  by_cases h : 0 < a
  · have c1 := cdiv_spec (n := lo) h
    have c0 := cdiv_nonneg (n := lo) h (by have := L.l1; omega)
    by_cases h2 : a * cdiv lo a ≤ lo + n - 1
    · rw [hitF_here h h2]
      refine ⟨c0, (hits_iff L c0).mpr ⟨0, Int.le_refl 0, by omega, by omega⟩, fun k k0 k1 hk => ?_⟩
      obtain ⟨j, j0, j1, j2⟩ := (hits_iff L k0).mp hk
      have wj := Int.mul_nonneg (show (0:Int) ≤ w by have := L.a0; have := L.aw; omega) j0
      have := cdiv_le (n := lo) h (k := k) (by omega)
      omega
    · rw [hitF_deep h h2]
      have D := L.down h h2
      have ih := hitF_least D
      have w0 : (0:Int) ≤ w := by have := L.a0; have := L.aw; omega
      cases e : hitF a (w % a) ((-(lo + n - 1)) % a) n with
      | none =>
        rw [e] at ih
        show ∀ k, 0 ≤ k → ¬ _
        intro k k0 hk
        obtain ⟨j, j0, j1, j2⟩ := (hits_iff L k0).mp hk
        exact ih j j0 ((hits_down L h).mpr ⟨k, j1, j2⟩)
      | some j =>
        rw [e] at ih
        obtain ⟨j0, jh, jl⟩ := ih
        obtain ⟨i, i1, i2⟩ := (hits_down L h).mp jh
        have wj := Int.mul_nonneg w0 j0
        have s := cdiv_spec (n := w * j + lo) h
        have sle := cdiv_le (n := w * j + lo) h i1
        have sm := Int.mul_le_mul_of_nonneg_left sle (Int.le_of_lt h)
        have s0 := cdiv_nonneg (n := w * j + lo) h (by have := L.l1; omega)
        refine ⟨s0, (hits_iff L s0).mpr ⟨j, j0, s.1, by omega⟩, fun k k0 k1 hk => ?_⟩
        obtain ⟨j', j0', j1', j2'⟩ := (hits_iff L k0).mp hk
        have hj := (hits_down L h).mpr ⟨k, j1', j2'⟩
        have jj : j ≤ j' := by
          by_cases c : j ≤ j'
          · exact c
          · exact absurd hj (jl j' j0' (by omega))
        have := Int.mul_le_mul_of_nonneg_left jj w0
        have := cdiv_le (n := w * j + lo) h (k := k) (by omega)
        have k1' : k < cdiv (w * j + lo) a := k1
        omega
  · rw [hitF_none (by omega)]
    intro k k0 hk
    obtain ⟨j, j0, j1, j2⟩ := (hits_iff L k0).mp hk
    have a00 : a = 0 := by have := L.a0; omega
    have w0 : (0:Int) ≤ w := by have := L.a0; have := L.aw; omega
    have wj := Int.mul_nonneg w0 j0
    have := L.l1
    rw [a00, Int.zero_mul] at j1
    omega
termination_by a.toNat
decreasing_by
  have h1 := Int.emod_nonneg w (show a ≠ 0 by omega)
  have h2 := Int.emod_lt_of_pos w (show 0 < a by omega)
  omega
/-! the function -/
def firstHit (st sp w n : Int) : Option Int := if st % w < n then some 0 else hitF w (sp % w) ((-st) % w) n
def HitAt (st sp w n i : Int) : Prop := (st + sp * i) % w < n
theorem neg_mod {st w n : Int} (hw : 0 < w) (hn : 1 ≤ n) (h : ¬ st % w < n) : (-st) % w = w - st % w := by
  have h1 := Int.mul_ediv_add_emod st w
  have h3 := Int.emod_lt_of_pos st hw
  have e : -st = (w - st % w) + w * (-(st / w) - 1) := by rw [Int.mul_sub, Int.mul_neg]; omega
  rw [e, Int.add_mul_emod_self_left]
  exact Int.emod_eq_of_lt (by omega) (by omega)
theorem lvl0 {st sp w n : Int} (hw : 0 < w) (hn : 1 ≤ n) (h : ¬ st % w < n) : Lvl w (sp % w) ((-st) % w) n := by
  have h3 := Int.emod_lt_of_pos st hw
  rw [neg_mod hw hn h]
  exact ⟨Int.emod_nonneg _ (by omega), Int.emod_lt_of_pos _ hw, hn, by omega, by omega⟩
theorem hitAt_iff {st sp w n i : Int} : HitAt st sp w n i ↔ Hits w (sp % w) ((-st) % w) n i := by
  unfold HitAt Hits
  have e : (sp % w * i - (-st) % w) % w = (st + sp * i) % w := by
    have x1 := Int.mul_ediv_add_emod sp w
    have x2 := Int.mul_ediv_add_emod (-st) w
    have : st + sp * i = (sp % w * i - (-st) % w) + w * (sp / w * i - (-st) / w) := by
      rw [Int.mul_sub, ← Int.mul_assoc]
      have : sp * i = w * (sp / w) * i + sp % w * i := by rw [← Int.add_mul, x1]
      omega
    rw [this, Int.add_mul_emod_self_left]
  rw [e]
theorem firstHit_least {st sp w n : Int} (hw : 0 < w) (hn : 1 ≤ n) : LeastOf (HitAt st sp w n) (firstHit st sp w n) := by
  unfold firstHit
  by_cases h : st % w < n
  · rw [if_pos h]
    refine ⟨Int.le_refl 0, by unfold HitAt; simpa using h, fun k k0 k1 => by omega⟩
  · rw [if_neg h]
    have := hitF_least (lvl0 (sp := sp) hw hn h)
    cases e : hitF w (sp % w) ((-st) % w) n with
    | none => rw [e] at this; exact fun k k0 hk => this k k0 (hitAt_iff.mp hk)
    | some i =>
      rw [e] at this
      exact ⟨this.1, hitAt_iff.mpr this.2.1, fun k k0 k1 hk => this.2.2 k k0 k1 (hitAt_iff.mp hk)⟩
end SM
namespace SM
/-- what can be left: the rests of start by the greatest divisor -/
theorem left_mod {st sp w : Int} (i : Int) : (st + sp * i) % w % gcdI w (sp % w) = st % gcdI w (sp % w) := by
  rw [Int.emod_emod_of_dvd _ (gcdI_dvd_left w (sp % w))]
  obtain ⟨m, hm⟩ := gcdI_dvd_right w (sp % w)
  obtain ⟨k, hk⟩ := gcdI_dvd_left w (sp % w)
  have e2 := Int.mul_ediv_add_emod sp w
  have : st + sp * i = st + gcdI w (sp % w) * ((k * (sp / w) + m) * i) := by
    have : sp = gcdI w (sp % w) * (k * (sp / w) + m) := by
      rw [Int.mul_add, ← hm, ← Int.mul_assoc, ← hk]; exact e2.symm
    conv => lhs; rw [this]
    rw [Int.mul_assoc]
  rw [this, Int.add_mul_emod_self_left]
/-- each such rest is left -/
theorem left_all {st sp w : Int} (hw : 0 < w) {x : Int} (x0 : 0 ≤ x) (xw : x < w) (h : x % gcdI w (sp % w) = st % gcdI w (sp % w)) : ∃ i, 0 ≤ i ∧ (st + sp * i) % w = x := by
  have sp0 := Int.emod_nonneg sp (show w ≠ 0 by omega)
  obtain ⟨u, v, e⟩ := bezout w (sp % w) (by omega) sp0
  generalize hg : gcdI w (sp % w) = g at h e
  have d : g ∣ x - st := Int.dvd_of_emod_eq_zero (by rw [Int.sub_emod, h]; simp)
  obtain ⟨k, hk⟩ := d
  -- i = v k, brought from 0 on
  refine ⟨(v * k) % w, Int.emod_nonneg _ (by omega), ?_⟩
  have e3 := Int.mul_ediv_add_emod (v * k) w
  have e2 := Int.mul_ediv_add_emod sp w
  have : st + sp * ((v * k) % w) = x + w * (sp / w * (v * k) - u * k - sp * (v * k / w)) := by
    have a1 : sp * ((v * k) % w) = sp * (v * k) - w * (sp * (v * k / w)) := by
      have : (v * k) % w = v * k - w * (v * k / w) := by omega
      rw [this, Int.mul_sub, ← Int.mul_assoc sp w, Int.mul_comm sp w, Int.mul_assoc w sp]
    have a2 : sp * (v * k) = w * (sp / w * (v * k)) + sp % w * (v * k) := by
      conv => lhs; lhs; rw [← e2]
      rw [Int.add_mul, Int.mul_assoc]
    have a3 : sp % w * (v * k) = g * k - w * (u * k) := by
      rw [e, Int.add_mul, Int.mul_assoc, Int.mul_assoc]; omega
    rw [Int.mul_sub w, Int.mul_sub w]
    omega
  rw [this, Int.add_mul_emod_self_left]
  exact Int.emod_eq_of_lt x0 xw
theorem firstHit_none_iff {st sp w n : Int} (hw : 0 < w) (hn : 1 ≤ n) : firstHit st sp w n = none ↔ n ≤ st % gcdI w (sp % w) := by
  have h := firstHit_least (st := st) (sp := sp) hw hn
  have g0 := gcdI_pos (a := w) (b := sp % w) (by omega)
  have g1 := gcdI_le_left (sp % w) hw
  have r0 := Int.emod_nonneg st (show gcdI w (sp % w) ≠ 0 by omega)
  have r1 := Int.emod_lt_of_pos st g0
  constructor
  · intro e
    rw [e] at h
    by_cases c : n ≤ st % gcdI w (sp % w)
    · exact c
    · obtain ⟨i, i0, hi⟩ := left_all (st := st) (sp := sp) hw r0 (by omega) (Int.emod_emod_of_dvd st (Int.dvd_refl _))
      exact absurd (show HitAt st sp w n i by unfold HitAt; omega) (h i i0)
  · intro e
    cases e2 : firstHit st sp w n with
    | none => rfl
    | some i =>
      rw [e2] at h
      have h2 := h.2.1
      unfold HitAt at h2
      have l := left_mod (st := st) (sp := sp) (w := w) i
      have x0 := Int.emod_nonneg (st + sp * i) (show w ≠ 0 by omega)
      generalize (st + sp * i) % w = x at h2 l x0
      have : x % gcdI w (sp % w) ≤ x := by
        have := Int.mul_ediv_add_emod x (gcdI w (sp % w))
        have := Int.mul_nonneg (Int.le_of_lt g0) (Int.ediv_nonneg x0 (Int.le_of_lt g0))
        omega
      omega
end SM
namespace SM
/-! the least part -/
/-- no number from 2 on below k divides n -/
def NoPart (n k : Int) : Prop := ∀ d, 2 ≤ d → d < k → ¬ d ∣ n
structure IsPart (n d : Int) : Prop where
  two : 2 ≤ d
  dvd : d ∣ n
  least : NoPart n d
theorem isPart_self {n p : Int} (h2 : 2 ≤ n) (h : NoPart n p) (hp : 0 ≤ p) (hs : n < p * p) : IsPart n n := by
  refine ⟨h2, Int.dvd_refl n, fun d d2 dn dd => ?_⟩
  obtain ⟨e, he⟩ := dd
  have d0 : 0 < d := by omega
  have e2 : 2 ≤ e := by
    rcases (show e ≤ 0 ∨ e = 1 ∨ 2 ≤ e by omega) with c | c | c
    · have := Int.mul_le_mul_of_nonneg_left c (Int.le_of_lt d0); rw [Int.mul_zero] at this; omega
    · subst c; omega
    · exact c
  have hd : p ≤ d := by
    by_cases c : p ≤ d
    · exact c
    · exact absurd ⟨e, he⟩ (h d d2 (by omega))
  have hee : p ≤ e := by
    by_cases c : p ≤ e
    · exact c
    · exact absurd ⟨d, by rw [Int.mul_comm]; exact he⟩ (h e e2 (by omega))
  have := Int.mul_le_mul hd hee hp (by omega)
  omega
theorem not_dvd_of {n d : Int} (h : n % d ≠ 0) : ¬ d ∣ n := fun z => h (Int.emod_eq_zero_of_dvd z)
theorem NoPart.five {n : Int} (h2 : n % 2 ≠ 0) (h3 : n % 3 ≠ 0) : NoPart n 5 := by
  intro d d2 d5 hd
  rcases (show d = 2 ∨ d = 3 ∨ d = 4 by omega) with e | e | e
  · subst e; exact not_dvd_of h2 hd
  · subst e; exact not_dvd_of h3 hd
  · subst e; exact not_dvd_of h2 (Int.dvd_trans (by decide) hd)
/-- six on -/
theorem NoPart.six {n p : Int} (h : NoPart n p) (h2 : n % 2 ≠ 0) (h3 : n % 3 ≠ 0) (hp : p % 6 = 5) (a : n % p ≠ 0) (b : n % (p + 2) ≠ 0) : NoPart n (p + 6) := by
  intro d d2 d6 hd
  rcases (show d < p ∨ d = p ∨ d = p + 1 ∨ d = p + 2 ∨ d = p + 3 ∨ d = p + 4 ∨ d = p + 5 by omega) with e | e | e | e | e | e | e
  · exact h d d2 e hd
  · subst e; exact not_dvd_of a hd
  · exact not_dvd_of h2 (Int.dvd_trans (show (2 : Int) ∣ d by omega) hd)
  · subst e; exact not_dvd_of b hd
  · exact not_dvd_of h2 (Int.dvd_trans (show (2 : Int) ∣ d by omega) hd)
  · exact not_dvd_of h3 (Int.dvd_trans (show (3 : Int) ∣ d by omega) hd)
  · exact not_dvd_of h2 (Int.dvd_trans (show (2 : Int) ∣ d by omega) hd)
theorem NoPart.two_on {n p : Int} (h : NoPart n p) (h2 : n % 2 ≠ 0) (hp : p % 6 = 5) (a : n % p ≠ 0) : NoPart n (p + 2) := by
  intro d d2 d6 hd
  rcases (show d < p ∨ d = p ∨ d = p + 1 by omega) with e | e | e
  · exact h d d2 e hd
  · subst e; exact not_dvd_of a hd
  · exact not_dvd_of h2 (Int.dvd_trans (show (2 : Int) ∣ d by omega) hd)
end SM
namespace SM
/-! hits counted -/
def cnt (h : Int → Bool) : Nat → Nat
  | 0 => 0
  | m + 1 => cnt h m + (if h ((m : Int) + 1) = true then 1 else 0)
theorem cnt_none {h : Int → Bool} {m : Nat} : ∀ k : Nat, (∀ j : Nat, m < j → j ≤ m + k → h (j : Int) = false) → cnt h (m + k) = cnt h m
  | 0, _ => rfl
  | k + 1, z => by
    have ih := cnt_none (h := h) (m := m) k fun j h1 h2 => z j h1 (by omega)
    have e := z (m + k + 1) (by omega) (by omega)
    rw [Int.natCast_add, Int.natCast_one] at e
    rw [← Nat.add_assoc, cnt, ih, e]
    simp
theorem cnt_hit {h : Int → Bool} {m n : Nat} (hm : m < n) (hh : h (n : Int) = true) (z : ∀ j : Nat, m < j → j < n → h (j : Int) = false) : cnt h n = cnt h m + 1 := by
  obtain ⟨k, rfl⟩ : ∃ k, n = m + k + 1 := ⟨n - m - 1, by omega⟩
  have e := cnt_none (h := h) (m := m) k fun j h1 h2 => z j h1 (by omega)
  rw [Int.natCast_add, Int.natCast_one] at hh
  rw [cnt, e, hh]
  simp
end SM
namespace SM
/-- going on by first hits: where one stands, and how many hits lie behind -/
structure Gone (s sp w n : Int) (k : Nat) (spot gone : Int) : Prop where
  ix : ∃ i : Nat, gone = i ∧ spot = s + sp * (i : Int) ∧ (s + sp * (i : Int)) % w < n ∧ cnt (fun i => decide ((s + sp * i) % w < n)) i = k
theorem Gone.start {s sp w n : Int} (h : s % w < n) : Gone s sp w n 0 s 0 := ⟨0, rfl, by simp, by simpa using h, rfl⟩
theorem spot_mod {s sp w : Int} (i : Int) : (s + sp * i) % gcdI w (sp % w) = s % gcdI w (sp % w) := by
  have := left_mod (st := s) (sp := sp) (w := w) i
  rw [Int.emod_emod_of_dvd _ (gcdI_dvd_left w (sp % w))] at this
  exact this
theorem Gone.step {s sp w n : Int} (hw : 0 < w) (hn : 1 ≤ n) (hr : s % gcdI w (sp % w) < n) {k : Nat} {spot gone : Int} (G : Gone s sp w n k spot gone) :
    ∃ f, firstHit (spot + sp) sp w n = some f ∧ 0 ≤ f ∧ (spot + sp * (f + 1)) % w < n ∧ Gone s sp w n (k + 1) (spot + sp * (f + 1)) (gone + f + 1) := by
  obtain ⟨i, rfl, rfl, hi, hc⟩ := G
  have L := firstHit_least (st := s + sp * (i : Int) + sp) (sp := sp) hw hn
  have sh : ∀ j : Int, s + sp * (i : Int) + sp + sp * j = s + sp * ((i : Int) + 1 + j) := fun j => by rw [Int.mul_add, Int.mul_add]; omega
  cases e : firstHit (s + sp * (i : Int) + sp) sp w n with
  | none =>
    have z := (firstHit_none_iff hw hn).mp e
    have := spot_mod (s := s) (sp := sp) (w := w) ((i : Int) + 1 + 0)
    rw [← sh, Int.mul_zero, Int.add_zero] at this
    omega
  | some f =>
    rw [e] at L
    obtain ⟨f0, f1, f2⟩ := L
    unfold HitAt at f1 f2
    have e1 : s + sp * (i : Int) + sp * (f + 1) = s + sp * ((i : Int) + 1 + f) := by rw [Int.mul_add, Int.mul_add, Int.mul_add]; omega
    rw [sh] at f1
    refine ⟨f, rfl, f0, by rw [e1]; exact f1, i + 1 + f.toNat, ?_, ?_, ?_, ?_⟩
    · rw [Int.natCast_add, Int.natCast_add]; omega
    · rw [e1]; congr 2; rw [Int.natCast_add, Int.natCast_add]; omega
    · have : ((i + 1 + f.toNat : Nat) : Int) = (i : Int) + 1 + f := by rw [Int.natCast_add, Int.natCast_add]; omega
      rw [this]; exact f1
    · have : ((i + 1 + f.toNat : Nat) : Int) = (i : Int) + 1 + f := by rw [Int.natCast_add, Int.natCast_add]; omega
      have hh := cnt_hit (h := fun i => decide ((s + sp * i) % w < n)) (m := i) (n := i + 1 + f.toNat) (by omega) (by rw [this]; exact decide_eq_true f1) fun j h1 h2 => by
        have z := f2 ((j : Int) - i - 1) (by omega) (by omega)
        rw [sh] at z
        have ej : (i : Int) + 1 + ((j : Int) - i - 1) = j := by omega
        rw [ej] at z
        exact decide_eq_false z
      rw [hh, hc]
end SM
namespace SM
abbrev T3 := Int × Int × Int
/-- the levels gone down, from the top to where one stands -/
inductive Down (n w0 a0 lo0 : Int) : List T3 → Int → Int → Int → Prop
  | top : Down n w0 a0 lo0 [] w0 a0 lo0
  | go {lv : List T3} {w a lo : Int} : Down n w0 a0 lo0 lv w a lo → 0 < a → ¬ a * cdiv lo a ≤ lo + n - 1 → Down n w0 a0 lo0 (lv ++ [(w, a, lo)]) a (w % a) ((-(lo + n - 1)) % a)
theorem Down.lvl {n w0 a0 lo0 : Int} {lv : List T3} {w a lo : Int} (d : Down n w0 a0 lo0 lv w a lo) (L : Lvl w0 a0 lo0 n) : Lvl w a lo n ∧ w ≤ w0 ∧ ∀ t ∈ lv, 0 < t.2.1 ∧ t.2.1 < t.1 ∧ t.1 ≤ w0 ∧ 1 ≤ t.2.2 ∧ t.2.2 ≤ w0 := by
  induction d with
  | top => exact ⟨L, Int.le_refl _, fun t ht => nomatch ht⟩
  | @go lv w a lo d h h2 ih =>
    obtain ⟨l, b, c⟩ := ih
    refine ⟨l.down h h2, by have := l.aw; omega, fun t ht => ?_⟩
    rcases List.mem_append.mp ht with z | z
    · exact c t z
    · have : t = (w, a, lo) := by simpa using z
      subst this
      have := l.aw; have := l.l1; have := l.l2; have := l.n1
      exact ⟨h, by assumption, b, by assumption, by show lo ≤ w0; omega⟩
theorem half_mod {w a : Int} (h : 0 < a) (hw : a < w) : 2 * (a * (w % a)) ≤ w * a := by
  have e := Int.mul_ediv_add_emod w a
  have r1 := Int.emod_lt_of_pos w h
  have r0 := Int.emod_nonneg w (show a ≠ 0 by omega)
  have q1 : 1 ≤ w / a := (Int.le_ediv_iff_mul_le h).mpr (by omega)
  have := Int.mul_le_mul_of_nonneg_left q1 (Int.le_of_lt h)
  have e2 : 2 * (w % a) ≤ w := by omega
  have := Int.mul_le_mul_of_nonneg_left e2 (Int.le_of_lt h)
  rw [Int.mul_comm w a, ← Int.mul_assoc, Int.mul_comm 2 a, Int.mul_assoc]
  exact this
theorem Down.len {n w0 a0 lo0 : Int} {lv : List T3} {w a lo : Int} (d : Down n w0 a0 lo0 lv w a lo) (L : Lvl w0 a0 lo0 n) : 2 ^ lv.length * (w * a) ≤ w0 * a0 := by
  induction d with
  | top => simp
  | @go lv w a lo d h h2 ih =>
    obtain ⟨l, b, _⟩ := d.lvl L
    have m := half_mod h l.aw
    have p : (0 : Int) ≤ 2 ^ lv.length := Int.pow_nonneg (by decide)
    have := Int.mul_le_mul_of_nonneg_left m p
    rw [List.length_append, List.length_singleton, Int.pow_succ, Int.mul_assoc]
    omega
end SM
namespace L2
open PySem PySem.Spec PyProof.Rows SM
/-! ### plans: lists of triples of whole numbers -/
def tupW (t : T3) : HO := .tup [.int t.1, .int t.2.1, .int t.2.2]
def Pl (H : Hp) (xs : List V) (ws : List T3) : Prop := xs.length = ws.length ∧ ∀ (i : Nat) t, ws[i]? = some t → ∃ p, xs[i]? = some (.ref p) ∧ H p = some (tupW t)
theorem Pl.nil {H : Hp} : Pl H [] [] := ⟨rfl, fun i t e => by simp at e⟩
theorem Pl.same {H H' : Hp} {xs : List V} {ws : List T3} (g : Same H H') (h : Pl H xs ws) : Pl H' xs ws := ⟨h.1, fun i t e => let ⟨p, e1, e2⟩ := h.2 i t e; ⟨p, e1, g _ _ e2⟩⟩
theorem Pl.upd {H : Hp} {xs ys : List V} {ws : List T3} {L : Addr} {o : HO} (h : Pl H xs ws) (hL : H L = some (.lst ys)) : Pl (upd H L o) xs ws := ⟨h.1, fun i t e => by
  obtain ⟨p, e1, e2⟩ := h.2 i t e
  exact ⟨p, e1, by rw [upd_ne (ne_of e2 hL (by intro z; cases z))]; exact e2⟩⟩
theorem Pl.snoc {H : Hp} {xs : List V} {ws : List T3} {p : Addr} {t : T3} (h : Pl H xs ws) (hp : H p = some (tupW t)) : Pl H (xs ++ [.ref p]) (ws ++ [t]) := by
  refine ⟨by simp [h.1], fun i u e => ?_⟩
  by_cases c : i < ws.length
  · rw [List.getElem?_append_left c] at e
    obtain ⟨b, e1, e2⟩ := h.2 i u e
    exact ⟨b, by rw [List.getElem?_append_left (by rw [h.1]; exact c)]; exact e1, e2⟩
  · rw [List.getElem?_append_right (by omega)] at e
    have z : i - ws.length = 0 := by
      rcases Nat.eq_zero_or_pos (i - ws.length) with z | z
      · exact z
      · rw [List.getElem?_eq_none (by simp; omega)] at e; cases e
    rw [z] at e
    cases e
    exact ⟨p, by rw [List.getElem?_append_right (by rw [h.1]; omega), h.1, z]; rfl, hp⟩
theorem Pl.at {H : Hp} {xs : List V} {ws : List T3} (h : Pl H xs ws) {i : Nat} {x : V} (e : xs[i]? = some x) : ∃ p t, ws[i]? = some t ∧ x = .ref p ∧ H p = some (tupW t) := by
  have hi : i < ws.length := by
    rw [← h.1]
    exact (List.getElem?_eq_some_iff.mp e).1
  obtain ⟨p, e1, e2⟩ := h.2 i ws[i] (List.getElem?_eq_getElem hi)
  rw [e] at e1
  cases e1
  exact ⟨p, ws[i], List.getElem?_eq_getElem hi, rfl, e2⟩
theorem Pl.take {H : Hp} {xs : List V} {ws : List T3} (h : Pl H xs ws) (n : Nat) : Pl H (xs.take n) (ws.take n) := by
  refine ⟨by simp [h.1], fun i t e => ?_⟩
  rw [List.getElem?_take] at e ⊢
  split at e
  · rename_i c
    rw [if_pos c]
    exact h.2 i t e
  · cases e
theorem Pl.append {H : Hp} {xs ys : List V} {ws vs : List T3} (h : Pl H xs ws) (k : Pl H ys vs) : Pl H (xs ++ ys) (ws ++ vs) := by
  refine ⟨by simp [h.1, k.1], fun i t e => ?_⟩
  by_cases c : i < ws.length
  · rw [List.getElem?_append_left c] at e
    rw [List.getElem?_append_left (by rw [h.1]; exact c)]
    exact h.2 i t e
  · rw [List.getElem?_append_right (by omega)] at e
    rw [List.getElem?_append_right (by rw [h.1]; omega), h.1]
    exact k.2 _ t e
theorem Pl.reverse {H : Hp} {xs : List V} {ws : List T3} (h : Pl H xs ws) : Pl H xs.reverse ws.reverse := by
  refine ⟨by simp [h.1], fun i t e => ?_⟩
  have hi : i < ws.length := by
    have := (List.getElem?_eq_some_iff.mp e).1
    simpa using this
  rw [List.getElem?_reverse hi] at e
  rw [List.getElem?_reverse (by rw [h.1]; exact hi), h.1]
  exact h.2 _ t e
theorem Pl.one {H : Hp} {p : Addr} {t : T3} (hp : H p = some (tupW t)) : Pl H [.ref p] [t] := (Pl.nil (H := H)).snoc hp
theorem Pl.ix {H : Hp} {xs : List V} {ws : List T3} (h : Pl H xs ws) {i : Int} (h0 : 0 ≤ i) (h1 : i < ws.length) : ∃ p t, atI xs i = some (.ref p) ∧ ws[i.toNat]? = some t ∧ t ∈ ws ∧ H p = some (tupW t) := by
  have hk : i.toNat < ws.length := by omega
  obtain ⟨p, e1, e2⟩ := h.2 i.toNat ws[i.toNat] (List.getElem?_eq_getElem hk)
  have ek : i = ((i.toNat : Nat) : Int) := by omega
  have q : atI xs ((i.toNat : Nat) : Int) = some (.ref p) := atI_nat e1
  rw [← ek] at q
  exact ⟨p, _, q, List.getElem?_eq_getElem hk, List.getElem_mem hk, e2⟩
def dW (t : T3) : PyData := .tuple [.int t.1, .int t.2.1, .int t.2.2]
theorem dd_tupW {K : PySem.W.Frag} {H : Hp} {p : Addr} {t : T3} (h : H p = some (tupW t)) : DD K H (.ref p) (dW t) := .tup (SqT.of h) (.cons (.int _) (.cons (.int _) (.cons (.int _) .nil)))
theorem Pl.dds {K : PySem.W.Frag} {H : Hp} : ∀ {ws : List T3} {xs : List V}, Pl H xs ws → DDs K H xs (ws.map dW)
  | [], [], _ => .nil
  | [], _ :: _, h => by have := h.1; simp at this
  | _ :: _, [], h => by have := h.1; simp at this
  | t :: ws, x :: xs, h => by
    obtain ⟨p, e1, e2⟩ := h.2 0 t rfl
    cases e1
    refine .cons (dd_tupW e2) (Pl.dds ⟨by have := h.1; simpa using this, fun i u e => ?_⟩)
    have := h.2 (i + 1) u (by simpa using e)
    simpa using this
theorem Pl.dd {K : PySem.W.Frag} {H : Hp} {a : Addr} {ws : List T3} {xs : List V} (hs : SqL K H a xs) (h : Pl H xs ws) : DD K H (.ref a) (.list (ws.map dW)) := .lst hs h.dds
theorem eqv_dW (t u : T3) : PyData.eqv (dW t) (dW u) = decide (t = u) := by
  obtain ⟨a, b, c⟩ := t
  obtain ⟨x, y, z⟩ := u
  unfold dW
  simp only [PyData.eqv, PyData.eqvAll]
  by_cases h1 : a = x <;> by_cases h2 : b = y <;> by_cases h3 : c = z <;> simp [h1, h2, h3]
theorem eqvAll_dW : ∀ ws vs : List T3, PyData.eqvAll (ws.map dW) (vs.map dW) = decide (ws = vs)
  | [], [] => by simp [PyData.eqvAll]
  | [], _ :: _ => by simp [PyData.eqvAll]
  | _ :: _, [] => by simp [PyData.eqvAll]
  | t :: ws, u :: vs => by
    simp only [List.map_cons, PyData.eqvAll, eqv_dW, eqvAll_dW ws vs]
    by_cases h1 : t = u <;> by_cases h2 : ws = vs <;> simp [h1, h2]
theorem eqv_plan (ws vs : List T3) : PyData.eqv (.list (ws.map dW)) (.list (vs.map dW)) = decide (ws = vs) := by
  simp only [PyData.eqv]
  exact eqvAll_dW ws vs
theorem lay_dW : ∀ ws : List T3, PyData.canLayAll0 (ws.map dW) = true ∧ PyData.depthAll (ws.map dW) ≤ 1
  | [] => by simp [PyData.canLayAll0, PyData.depthAll]
  | t :: ws => by
    have := lay_dW ws
    simp only [List.map_cons, PyData.canLayAll0, PyData.depthAll, this.1, Bool.and_true]
    refine ⟨by simp [dW, PyData.canLay0, PyData.canLayAll0], ?_⟩
    have e : PyData.depth (dW t) = 1 := by simp [dW, PyData.depth, PyData.depthAll]
    rw [e]
    omega
theorem shaped_plan (ws : List T3) : SeqAt.shaped (.list (ws.map dW)) = true := by
  have := lay_dW ws
  unfold SeqAt.shaped
  simp only [PyData.canLay0, PyData.depth, this.1, Bool.true_and]
  exact decide_eq_true (by omega)
section
variable {K : PySem.W.Frag} {H : Hp} {Q : VK} {a b : Addr} {xs ys : List V} {ws vs : List T3}
theorem neP (ha : SqL K H a xs) (pa : Pl H xs ws) (hb : SqL K H b ys) (pb : Pl H ys vs) (q : Q (.bl (!decide (ws = vs))) H) : rNeD K (.ref a) (.ref b) H Q :=
  ⟨_, _, pa.dd ha, pb.dd hb, shaped_plan _, shaped_plan _, by rw [eqv_plan]; exact q⟩
end
end L2
namespace L2
open PySem PySem.Spec PyProof.Rows
/-! ### iterators that hand out a new pair at each turn: zip, enumerate -/
/-- the pair's items at turn i: f -/
def Itp (n : Nat) (ok : Hp → Prop) (f : Nat → Hp → V → V → Prop) : It :=
  ⟨fun i H => i < n ∧ ok H, fun i H x H' => ∃ T u v, H T = none ∧ x = .ref T ∧ H' = upd H T (.tup [u, v]) ∧ f i H u v, fun i H => i = n ∧ ok H⟩
def okZ (K : PySem.W.Frag) (a b : Addr) (n : Nat) (H : Hp) : Prop := ∃ xs ys, SqL K H a xs ∧ SqL K H b ys ∧ min xs.length ys.length = n
def Itz (K : PySem.W.Frag) (a b : Addr) (n : Nat) : It := Itp n (okZ K a b n) fun i H u v => (∀ xs, SqL K H a xs → xs[i]? = some u) ∧ ∀ ys, SqL K H b ys → ys[i]? = some v
def iZip (K : PySem.W.Frag) (ta tb : TE) : TI := fun σ H R => ta σ H fun x H1 => tb σ H1 fun y H2 => ∃ a b xs ys, x = .ref a ∧ y = .ref b ∧ SqL K H2 a xs ∧ SqL K H2 b ys ∧ R (Itz K a b (min xs.length ys.length)) H2
section
variable {X : Cx} {es : List Expr} {k : Nat} {tpos : Pos}
end
theorem iZip_ap {K : PySem.W.Frag} {ta tb : TE} {σ : St} {H : Hp} {R : It → Hp → Prop} : iZip K ta tb σ H R = ta σ H fun x H1 => tb σ H1 fun y H2 => ∃ a b xs ys, x = .ref a ∧ y = .ref b ∧ SqL K H2 a xs ∧ SqL K H2 b ys ∧ R (Itz K a b (min xs.length ys.length)) H2 := rfl
/-! ### enumerate -/
def okE (K : PySem.W.Frag) (a : Addr) (n : Nat) (H : Hp) : Prop := ∃ xs, SqL K H a xs ∧ xs.length = n
def Ite (K : PySem.W.Frag) (a : Addr) (n : Nat) : It := Itp n (okE K a n) fun i H u v => u = .int i ∧ ∀ xs, SqL K H a xs → xs[i]? = some v
def iEnum (K : PySem.W.Frag) (ta : TE) : TI := fun σ H R => ta σ H fun x H1 => ∃ a xs, x = .ref a ∧ SqL K H1 a xs ∧ R (Ite K a xs.length) H1
section
variable {X : Cx} {es : List Expr} {k : Nat} {tpos : Pos}
end
theorem iEnum_ap {K : PySem.W.Frag} {ta : TE} {σ : St} {H : Hp} {R : It → Hp → Prop} : iEnum K ta σ H R = ta σ H fun x H1 => ∃ a xs, x = .ref a ∧ SqL K H1 a xs ∧ R (Ite K a xs.length) H1 := rfl
end L2
namespace L2
open PySem PySem.Spec PyProof.Rows
/-! ### ranges of any size, ranges with a step -/
def Its (lo c : Int) (n : Nat) : It := ⟨fun i _ => i < n, fun i H x H' => H' = H ∧ x = .int (lo + i * c), fun i _ => n ≤ i⟩
section
variable {X : Cx} {tg : Expr}
def iRngA (ta : TA) : TI := fun σ H R => ta σ H fun vs H1 => ∃ i j : Int, vs = [.int i, .int j] ∧ R (Its i 1 (j - i).toNat) H1
def iRng3 (ta : TA) : TI := fun σ H R => ta σ H fun vs H1 => ∃ (i j c : Int) (n : Nat), vs = [.int i, .int j, .int c] ∧ 0 < c ∧ c < 1000000 ∧ (n : Int) = Builtin.Range.rangeSize i j c ∧ R (Its i c n) H1
end
section
variable {D : Ends} {σ : St} {H : Hp} {Q : VK}
theorem iRngA_ap {ta : TA} {R : It → Hp → Prop} : iRngA ta σ H R = ta σ H fun vs H1 => ∃ i j : Int, vs = [.int i, .int j] ∧ R (Its i 1 (j - i).toNat) H1 := rfl
theorem iRng3_ap {ta : TA} {R : It → Hp → Prop} : iRng3 ta σ H R = ta σ H fun vs H1 => ∃ (i j c : Int) (n : Nat), vs = [.int i, .int j, .int c] ∧ 0 < c ∧ c < 1000000 ∧ (n : Int) = Builtin.Range.rangeSize i j c ∧ R (Its i c n) H1 := rfl
end
end L2
namespace L2
open PySem PySem.Spec PyProof.Rows
/-! ### a module's own constants -/
end L2
namespace SM
/-! parts that lie in wakings -/
/-! turning a number back by another one -/
structure Back (num by_ left right low high : Int) : Prop where
  l0 : 1 ≤ left
  r0 : 0 ≤ right
  g : gcdI left right = gcdI num by_
  lo : by_ ∣ left - low * num
  hi : by_ ∣ right - high * num
  sg : low * high ≤ 0
  sz : low.natAbs * right.natAbs + high.natAbs * left.natAbs = by_.natAbs
theorem Back.start {num by_ : Int} (h : 1 ≤ by_) : Back num by_ by_ (num % by_) 0 1 where
  l0 := h
  r0 := Int.emod_nonneg _ (by omega)
  g := gcdI_step num by_
  lo := by simp
  hi := by
    have e := Int.mul_ediv_add_emod num by_
    exact ⟨-(num / by_), by rw [Int.mul_neg, Int.one_mul]; omega⟩
  sg := by simp
  sz := by simp
theorem natAbs_sub_opp {a b : Int} (h : a * b ≤ 0) : (a - b).natAbs = a.natAbs + b.natAbs := by
  rcases Int.lt_trichotomy a 0 with x | x | x
  · have : 0 ≤ b := by
      by_cases c : 0 ≤ b
      · exact c
      · have := Int.mul_pos_of_neg_of_neg x (show b < 0 by omega)
        omega
    omega
  · subst x; omega
  · have : b ≤ 0 := by
      by_cases c : b ≤ 0
      · exact c
      · have := Int.mul_pos x (show 0 < b by omega)
        omega
    omega
theorem Back.step {num by_ left right low high : Int} (B : Back num by_ left right low high) (h : 0 < right) :
    Back num by_ right (left - left / right * right) high (low - left / right * high) where
  l0 := by omega
  r0 := by
    have e := Int.mul_ediv_add_emod left right
    have e2 := Int.mul_comm right (left / right)
    have := Int.emod_nonneg left (show right ≠ 0 by omega)
    omega
  g := by
    have e := Int.mul_ediv_add_emod left right
    have e2 := Int.mul_comm right (left / right)
    have e3 : left - left / right * right = left % right := by omega
    rw [e3, gcdI_step]
    exact B.g
  lo := B.hi
  hi := by
    obtain ⟨x, hx⟩ := B.lo
    obtain ⟨y, hy⟩ := B.hi
    refine ⟨x - left / right * y, ?_⟩
    have e1 : left - left / right * right - (low - left / right * high) * num = (left - low * num) - left / right * (right - high * num) := by
      rw [Int.sub_mul, Int.mul_sub, Int.mul_assoc]
      omega
    rw [e1, hx, hy, Int.mul_sub, ← Int.mul_assoc, ← Int.mul_assoc, Int.mul_comm by_ (left / right)]
  sg := by
    have q0 : 0 ≤ left / right := Int.ediv_nonneg (by have := B.l0; omega) (by omega)
    have e : high * (low - left / right * high) = low * high - left / right * (high * high) := by
      rw [Int.mul_sub, Int.mul_comm high low, ← Int.mul_assoc, Int.mul_comm high (left / right), Int.mul_assoc]
    rw [e]
    have hh : 0 ≤ high * high := by
      rcases Int.le_total 0 high with z | z
      · exact Int.mul_nonneg z z
      · have := Int.mul_nonneg (show 0 ≤ -high by omega) (show 0 ≤ -high by omega)
        rw [Int.neg_mul_neg] at this
        exact this
    have := Int.mul_nonneg q0 hh
    have := B.sg
    omega
  sz := by
    have q0 : 0 ≤ left / right := Int.ediv_nonneg (by have := B.l0; omega) (by omega)
    have l0 := B.l0
    have o : low * (left / right * high) ≤ 0 := by
      have e : low * (left / right * high) = left / right * (low * high) := by rw [← Int.mul_assoc, Int.mul_comm low, Int.mul_assoc]
      rw [e]
      have := Int.mul_nonneg q0 (show 0 ≤ -(low * high) by have := B.sg; omega)
      rw [Int.mul_neg] at this
      omega
    rw [natAbs_sub_opp o, Int.natAbs_mul]
    have e := Int.mul_ediv_add_emod left right
    have e2 := Int.mul_comm right (left / right)
    have e3 : left - left / right * right = left % right := by omega
    rw [e3]
    have en : left.natAbs = (left / right).natAbs * right.natAbs + (left % right).natAbs := by
      have m0 := Int.emod_nonneg left (show right ≠ 0 by omega)
      rw [← Int.natAbs_mul]
      have := Int.mul_nonneg q0 (show 0 ≤ right by omega)
      omega
    have S := B.sz
    rw [en, Nat.mul_add] at S
    rw [Nat.add_mul]
    have e5 : (left / right).natAbs * high.natAbs * right.natAbs = high.natAbs * ((left / right).natAbs * right.natAbs) := by
      rw [Nat.mul_comm (left / right).natAbs, Nat.mul_assoc]
    rw [e5]
    omega
theorem Back.bound {num by_ left right low high : Int} (B : Back num by_ left right low high) : high.natAbs ≤ by_.natAbs ∧ (0 < right → low.natAbs ≤ by_.natAbs) := by
  have S := B.sz
  have l0 := B.l0
  refine ⟨?_, fun h => ?_⟩
  · have := Nat.le_mul_of_pos_right high.natAbs (show 0 < left.natAbs by omega)
    omega
  · have := Nat.le_mul_of_pos_right low.natAbs (show 0 < right.natAbs by omega)
    omega
end SM
namespace L2
open PySem PySem.Spec PyProof.Rows SM
/-! ### papers -/
inductive Pap where
  | inn (k : Int)
  | par (b : Int) (ps : List Pap)
mutual
def Pap.dep : Pap → Nat
  | .inn _ => 0
  | .par _ ps => Pap.deps ps + 1
def Pap.deps : List Pap → Nat
  | [] => 0
  | p :: ps => max p.dep (Pap.deps ps)
end
-- a paper that lies in the heap; N: what is known of the places of its lists
mutual
inductive PapIn (K : PySem.W.Frag) (N : Addr → Prop) (H : Hp) : V → Pap → Prop where
  | inn {a : Addr} {k : Int} : H a = some (.tup [.str "in", .int k]) → PapIn K N H (.ref a) (.inn k)
  | par {a l : Addr} {b : Int} {xs : List V} {ps : List Pap} : H a = some (.tup [.str "parted", .int b, .ref l]) → H l = some (.lst xs) → N l → xs.length < 2 ^ 60 → PapsIn K N H xs ps → PapIn K N H (.ref a) (.par b ps)
inductive PapsIn (K : PySem.W.Frag) (N : Addr → Prop) (H : Hp) : List V → List Pap → Prop where
  | nil : PapsIn K N H [] []
  | cons {x : V} {xs : List V} {p : Pap} {ps : List Pap} : PapIn K N H x p → PapsIn K N H xs ps → PapsIn K N H (x :: xs) (p :: ps)
end
section
variable {K : PySem.W.Frag} {N N' : Addr → Prop} {H H' : Hp}
mutual
theorem PapIn.mono (g : Same H H') : ∀ {v : V} {p : Pap}, PapIn K N H v p → PapIn K N H' v p
  | _, _, .inn h => .inn (g _ _ h)
  | _, _, .par h hl n hz hs => .par (g _ _ h) (g _ _ hl) n hz (PapsIn.mono g hs)
theorem PapsIn.mono (g : Same H H') : ∀ {vs : List V} {ps : List Pap}, PapsIn K N H vs ps → PapsIn K N H' vs ps
  | _, _, .nil => .nil
  | _, _, .cons h hs => .cons (PapIn.mono g h) (PapsIn.mono g hs)
end
mutual
theorem PapIn.imp (f : ∀ l, N l → N' l) : ∀ {v : V} {p : Pap}, PapIn K N H v p → PapIn K N' H v p
  | _, _, .inn h => .inn h
  | _, _, .par h hl n hz hs => .par h hl (f _ n) hz (PapsIn.imp f hs)
theorem PapsIn.imp (f : ∀ l, N l → N' l) : ∀ {vs : List V} {ps : List Pap}, PapsIn K N H vs ps → PapsIn K N' H vs ps
  | _, _, .nil => .nil
  | _, _, .cons h hs => .cons (PapIn.imp f h) (PapsIn.imp f hs)
end
/-- a list is written that is none of the papers' -/
theorem upd_tup {D b : Addr} {zs ys : List V} {o : HO} (hD : H D = some (.lst zs)) (h : H b = some (.tup ys)) : upd H D o b = some (.tup ys) := by
  rw [upd_ne (ne_of h hD (by intro z; cases z))]
  exact h
mutual
theorem PapIn.write {D : Addr} {zs : List V} {o : HO} (hD : H D = some (.lst zs)) (f : ∀ l, N l → l ≠ D) : ∀ {v : V} {p : Pap}, PapIn K N H v p → PapIn K N (upd H D o) v p
  | _, _, .inn h => .inn (upd_tup hD h)
  | _, _, .par h hl n hz hs => .par (upd_tup hD h) (by rw [upd_ne (f _ n)]; exact hl) n hz (PapsIn.write hD f hs)
theorem PapsIn.write {D : Addr} {zs : List V} {o : HO} (hD : H D = some (.lst zs)) (f : ∀ l, N l → l ≠ D) : ∀ {vs : List V} {ps : List Pap}, PapsIn K N H vs ps → PapsIn K N (upd H D o) vs ps
  | _, _, .nil => .nil
  | _, _, .cons h hs => .cons (PapIn.write hD f h) (PapsIn.write hD f hs)
end
theorem PapsIn.len : ∀ {xs : List V} {ps : List Pap}, PapsIn K N H xs ps → xs.length = ps.length
  | _, _, .nil => rfl
  | _, _, .cons _ h => by simp [h.len]
theorem PapsIn.at : ∀ {xs : List V} {ps : List Pap}, PapsIn K N H xs ps → ∀ {i : Nat} {x : V}, xs[i]? = some x → ∃ p, ps[i]? = some p ∧ PapIn K N H x p
  | _, _, .nil, i, x, e => by simp at e
  | _, _, .cons h hs, 0, x, e => by cases e; exact ⟨_, rfl, h⟩
  | _, _, .cons h hs, i + 1, x, e => by simpa using hs.at (i := i) (by simpa using e)
theorem PapsIn.append : ∀ {xs ys : List V} {ps qs : List Pap}, PapsIn K N H xs ps → PapsIn K N H ys qs → PapsIn K N H (xs ++ ys) (ps ++ qs)
  | _, _, _, _, .nil, k => k
  | _, _, _, _, .cons h hs, k => .cons h (hs.append k)
theorem PapsIn.snoc {xs : List V} {ps : List Pap} {x : V} {p : Pap} (h : PapsIn K N H xs ps) (k : PapIn K N H x p) : PapsIn K N H (xs ++ [x]) (ps ++ [p]) := h.append (.cons k .nil)
end
abbrev anyL : Addr → Prop := fun _ => True
theorem PapIn.any {K : PySem.W.Frag} {N : Addr → Prop} {H : Hp} {v : V} {p : Pap} (h : PapIn K N H v p) : PapIn K anyL H v p := h.imp fun _ _ => trivial
/-! what a walker finds right -/
/-! knots and names -/
mutual
def Pap.nm : Pap → List Int
  | .inn k => [k]
  | .par _ ps => Pap.nms ps
def Pap.nms : List Pap → List Int
  | [] => []
  | p :: ps => p.nm ++ Pap.nms ps
end
/-! an object X is written by a callee, all others stay -/
def SameX (X : Addr) (H H' : Hp) : Prop := ∀ b o, b ≠ X → H b = some o → H' b = some o
theorem SameX.refl (X : Addr) (H : Hp) : SameX X H H := fun _ _ _ h => h
theorem SameX.trans {X : Addr} {H H1 H2 : Hp} (a : SameX X H H1) (b : SameX X H1 H2) : SameX X H H2 := fun c o n h => b c o n (a c o n h)
theorem SameX.upd {X : Addr} {H : Hp} (o : HO) : SameX X H (upd H X o) := fun b u n h => by rw [upd_ne n]; exact h
theorem SameX.free {X : Addr} {H H' : Hp} (g : SameX X H H') {l : Addr} (n : l ≠ X) (h : H' l = none) : H l = none := by
  cases e : H l with
  | none => rfl
  | some o => rw [g l o n e] at h; cases h
section
variable {K : PySem.W.Frag} {N : Addr → Prop} {H H' : Hp} {X : Addr} {zs : List V}
end
end L2
namespace L2
open PySem PySem.Spec PyProof.Rows
/-! ### sum of a list of whole numbers, all of a list of truths -/
section
variable {X : Cx}
end
theorem tBM0_ap {K : PySem.W.Frag} {T : String} {r : V → List V → Hp → VK → Prop} {to : TE} {σ : St} {H : Hp} {Q : VK} : tBM0 K T r to σ H Q = to σ H fun x H1 => tyV K T x H1 ∧ r x [] H1 Q := rfl
end L2
namespace L2
open PySem PySem.Spec PyProof.Rows SM
/-! ### right papers: more wakings, awake turns -/
def Wk (u : T3) : Prop := 1 ≤ u.1 ∧ 0 ≤ u.2.1 ∧ u.2.1 < u.1 ∧ 1 ≤ u.2.2 ∧ u.2.2 ≤ u.1
/-- two objects X, Y may be written by a callee, all others stay -/
def Same2 (X Y : Addr) (H H' : Hp) : Prop := ∀ b o, b ≠ X → b ≠ Y → H b = some o → H' b = some o
theorem Same2.refl (X Y : Addr) (H : Hp) : Same2 X Y H H := fun _ _ _ _ h => h
theorem Same2.trans {X Y : Addr} {H H1 H2 : Hp} (a : Same2 X Y H H1) (b : Same2 X Y H1 H2) : Same2 X Y H H2 := fun c o n m h => b c o n m (a c o n m h)
theorem Same2.free {X Y : Addr} {H H' : Hp} (g : Same2 X Y H H') {l : Addr} (n : l ≠ X) (m : l ≠ Y) (h : H' l = none) : H l = none := by
  cases e : H l with
  | none => rfl
  | some o => rw [g l o n m e] at h; cases h
theorem Same2.tup {X Y : Addr} {H H' : Hp} {xs ys zs : List V} {b : Addr} (g : Same2 X Y H H') (hX : H X = some (.lst xs)) (hY : H Y = some (.lst ys)) (h : H b = some (.tup zs)) : H' b = some (.tup zs) :=
  g b _ (ne_of h hX (by intro z; cases z)) (ne_of h hY (by intro z; cases z)) h
section
variable {K : PySem.W.Frag} {N : Addr → Prop} {H H' : Hp} {X Y : Addr} {xs ys : List V}
end
end L2
namespace L2
open PySem PySem.Spec PyProof.Rows SM
/-! ### lists of papers cut, papers compared -/
section
variable {K : PySem.W.Frag} {N : Addr → Prop} {H : Hp}
theorem PapsIn.take : ∀ {xs : List V} {ps : List Pap} (n : Nat), PapsIn K N H xs ps → PapsIn K N H (xs.take n) (ps.take n)
  | _, _, 0, h => by simp; exact .nil
  | _, _, n + 1, .nil => by simp; exact .nil
  | _, _, n + 1, .cons h hs => by simp only [List.take_succ_cons]; exact .cons h (hs.take n)
end
mutual
def Pap.pd : Pap → PyData
  | .inn k => .tuple [.str "in", .int k]
  | .par b ps => .tuple [.str "parted", .int b, .list (Pap.pds ps)]
def Pap.pds : List Pap → List PyData
  | [] => []
  | p :: ps => p.pd :: Pap.pds ps
end
mutual
theorem PapIn.dd {K : PySem.W.Frag} {N : Addr → Prop} {H : Hp} : ∀ {v : V} {p : Pap}, PapIn K N H v p → DD K H v p.pd
  | _, _, .inn h => by
    simp only [Pap.pd]
    exact .tup (SqT.of h) (.cons (.str _) (.cons (.int _) .nil))
  | _, _, .par h hl _ _ hs => by
    simp only [Pap.pd]
    exact .tup (SqT.of h) (.cons (.str _) (.cons (.int _) (.cons (.lst (SqL.of hl) (PapsIn.dds hs)) .nil)))
theorem PapsIn.dds {K : PySem.W.Frag} {N : Addr → Prop} {H : Hp} : ∀ {vs : List V} {ps : List Pap}, PapsIn K N H vs ps → DDs K H vs (Pap.pds ps)
  | _, _, .nil => by simp only [Pap.pds]; exact .nil
  | _, _, .cons h hs => by simp only [Pap.pds]; exact .cons (PapIn.dd h) (PapsIn.dds hs)
end
/-! the longest list in a paper -/
end L2
namespace L2
open PySem PySem.Spec PyProof.Rows

/-! ### an exception under way -/
theorem find_eraseIdx {α : Type} {p : α → Bool} : ∀ {l : List α} {i : Nat}, (∀ a, l[i]? = some a → p a = false) → (l.eraseIdx i).find? p = l.find? p
  | [], _, _ => by simp
  | a :: l, 0, h => by
    have := h a rfl
    simp [List.eraseIdx, List.find?, this]
  | a :: l, i + 1, h => by
    have := find_eraseIdx (l := l) (i := i) (p := p) fun b e => h b (by simpa using e)
    simp only [List.eraseIdx, List.find?, this]

theorem ObjOk.there {P : Program} {w : World} {H : Hp} {h : Heap} {a : Addr} : ∀ {o : HO}, ObjOk P w H h a o → ∃ u, h.get? a = some u := fun {o} x => by
  induction o with
  | lst xs => obtain ⟨_, _, _, _, e⟩ := x; exact ⟨_, e⟩
  | tup xs => obtain ⟨_, _, _, p⟩ := x; obtain ⟨u, hu, _⟩ := p; exact ⟨u, hu⟩
  | dK kvs => obtain ⟨_, _, _, _, o, _, _, e, _⟩ := x; exact ⟨_, e⟩
  | dT kvs => obtain ⟨_, _, _, _, o, _, _, e, _⟩ := x; exact ⟨_, e⟩
  | set S n => obtain ⟨o, _, _, _, e, _⟩ := x; exact ⟨_, e⟩
  | ins C dx fs => obtain ⟨_, _, _, e, _⟩ := x; exact ⟨_, e⟩
  | own y => obtain ⟨_, e⟩ := x; exact ⟨_, e⟩
  | xd fs => obtain ⟨_, ⟨_, _, _, e, _⟩, _⟩ := x; exact ⟨_, e⟩
  | rng lo hi => obtain ⟨_, _, _, e⟩ := x; exact ⟨_, e⟩
  | frz o u _ => exact ⟨_, x.1⟩
  | tbl ps => exact ⟨_, x⟩
  | met f y => exact ⟨_, x⟩
  | ext φ => exact x.2.1

/-- it has left a frame at least once: its traceback lies at T -/
structure Fly (h₀ : Heap) (H : Hp) (h : Heap) (e : Addr) (cls : Value) : Prop where
  new : h₀.get? e = none
  free : H e = none
  obj : ∃ oe vs T oT ts a0, h.get? e = some oe ∧ (oe.cls = cls ∧ vs[0]? = some a0) ∧ oe.data = .fields vs ∧ vs[1]? = some (.ref T) ∧ T ≠ e ∧ h.get? T = some oT ∧ oT.data = .fields ts ∧ ts[3]? = some .none ∧
    h₀.get? T = none ∧ H T = none

/-- how an exception of ours lies behind a call -/
def CXx (P : Program) (w : World) : CXT := fun outer H s E e s' =>
  ∃ a cls H', e = .ref a ∧ s'.os = s.os ∧ AllBare s'.gens ∧ Un (frs outer) [] H H' s.heap s'.heap ∧ HOk P w H' s'.heap ∧ Fly s.heap H' s'.heap a cls ∧ E cls (some a) H'

theorem HOk.but {P : Program} {w : World} {H : Hp} {h h' : Heap} (hok : HOk P w H h) (as : List Addr) (hn : ∀ a ∈ as, H a = none) (k : ∀ b o, b ∉ as → h.get? b = some o → h'.get? b = some o) : HOk P w H h' := fun b u e => by
  refine (hok b u e).stay (fun c v hc q => k c v (fun z => ?_) q) (fun _ q => q) fun _ _ q => q
  rcases hc with rfl | hc
  · rw [hn _ z] at e; cases e
  · rw [hn _ z] at hc; cases hc

section
variable {P : Program} {w : World} {K : PySem.W.Frag} {mg : Str → Option Value} {base : Heap} {N : List Str} {qual : Str} {scope : Scope} {f : Addr} {cd : Value} {A : Around} {outer : List Env} {s : Shared} {H H1 : Hp} {E : XK}
  {pins : List (Addr × Obj)} {σ : St} {s1 : Shared} {e : Addr} {cls : Value}

/-- behind the frame: what the library's rules of leaving tell -/
theorem left_fly {B : Heap} {a0 : Value} {h h' : Heap} {as : List Addr} {stk : List Env} (hB : B = PySem.W.hideAll h (frs stk ++ as)) (has : ∀ a ∈ as, s.heap.get? a = none ∧ H1 a = none) (hea : e ∈ as)
    (hfs : ∀ b ∈ frs stk, H1 b = none) (hsub : ∀ b ∈ frs outer, b ∈ frs stk) (hnew : ∀ b ∈ frs stk, b ∉ frs outer → s.heap.get? b = none)
    (u : Un (frs outer) [] H H1 s.heap h) (hok : HOk P w H1 h) (L : Heap.LeftW B stk e cls a0 h h') (hF : h.FunFrames base stk) : Un (frs outer) [] H H1 s.heap h' ∧ HOk P w H1 h' ∧ Fly s.heap H1 h' e cls := by
  subst hB
  obtain ⟨k1, k2, ⟨oe, vs, T, oT, ts, he, hc, hd, h1, hnT, hTe, hT, hdT, h3⟩, k4⟩ := L
  have keep : ∀ b o, b ∉ frs stk ++ as → h.get? b = some o → h'.get? b = some o := fun b o hb q => k1 b o (PySem.W.hideAll_get _ q hb)
  have hall : ∀ a ∈ frs stk ++ as, H1 a = none := fun a ha => (List.mem_append.mp ha).elim (hfs a) fun z => (has a z).2
  have newAs : ∀ {b : Addr} {o : Obj}, s.heap.get? b = some o → b ∉ as := fun {b o} q z => by rw [(has b z).1] at q; cases q
  have hTf : T ∉ frs stk := fun z => by
    obtain ⟨_, o, ho, hx⟩ := k2.mem z
    rw [hT] at ho; cases ho; exact hx _ hdT
  have out : ∀ o, h.get? T = some o → T ∈ as := fun o q => by
    by_cases z : T ∈ frs stk ++ as
    · exact (List.mem_append.mp z).elim (fun y => absurd y hTf) id
    · have := PySem.W.hideAll_get (h := h) _ q z
      rw [hnT] at this; cases this
  have slot : ∀ b o, h.get? b = some o → b ∈ frs stk → ∃ sl, h'.get? b = some { o with slots := sl } := fun b o q hb => by
    obtain ⟨_, o', ho', hx⟩ := hF.mem hb
    rw [q] at ho'; cases ho'
    exact k4 b o q hx
  refine ⟨⟨fun b o q n hb hx => ?_, fun b o q n hb hx => ?_, u.free, fun b o q hx => ?_, u.tups, u.frzs, u.tbls⟩, hok.but _ hall keep, ⟨(has e hea).1, (has e hea).2, oe, vs, T, oT, ts, a0, he, hc, hd, h1, hTe, hT, hdT, h3, ?_, ?_⟩⟩
  · refine keep b o (fun z => (List.mem_append.mp z).elim (fun y => ?_) (newAs q)) (u.keep b o q n hb hx)
    by_cases hb' : b ∈ frs outer
    · exact hb hb'
    · rw [hnew b y hb'] at q; cases q
  · obtain ⟨sl, e1⟩ := u.slot b o q n hb hx
    obtain ⟨sl', e2⟩ := slot b _ e1 (hsub b hb)
    exact ⟨sl', e2⟩
  · obtain ⟨o', e1⟩ := u.there b o q hx
    by_cases z : b ∈ frs stk
    · obtain ⟨sl, e2⟩ := slot b _ e1 z
      exact ⟨_, e2⟩
    · exact ⟨o', keep b o' (fun y => (List.mem_append.mp y).elim z (newAs q)) e1⟩
  · cases q : s.heap.get? T with
    | none => rfl
    | some o =>
      obtain ⟨o', e1⟩ := u.there T o q (by simp)
      exact absurd (out o' e1) (newAs q)
  · cases q : H1 T with
    | none => rfl
    | some o =>
      obtain ⟨o', e1⟩ := ObjOk.there (hok T o q)
      rw [(has T (out o' e1)).2] at q; cases q

/-- an exception made here leaves the def -/
theorem thrown_made {h' : Heap} {vs : List Value} (I : Inv (cxOf (CXx P w) P w K mg base N qual scope f cd A outer s H E) pins σ H1 s1) (hx : Heap.MadeExcOf s1.heap h' e cls vs) (q : E cls (some e) H1) :
    (cxOf (CXx P w) P w K mg base N qual scope f cd A outer s H E).xe (.ref e) { s1 with heap := h' } := by
  have hok : HOk P w H1 h' := I.hok.kept hx.keeps
  have he1 : H1 e = none := by
    cases z : H1 e with
    | none => rfl
    | some o =>
      obtain ⟨o', e1⟩ := ObjOk.there (I.hok e o z)
      rw [hx.new] at e1; cases e1
  have hes : s.heap.get? e = none := by
    cases z : s.heap.get? e with
    | none => rfl
    | some o =>
      obtain ⟨o', e1⟩ := I.base.there e o z (List.not_mem_nil)
      rw [hx.new] at e1; cases e1
  have hu : Un (frs outer) [] H H1 s.heap h' := Un.trans I.base (Un.kept hx.keeps)
  have hF : h'.FunFrames base (envOfC qual scope s.heap.objs.size f cd :: outer) := Heap.FunFrames.of_keeps (fun b o z _ => ⟨o, hx.keeps b o z, rfl⟩) I.stack
  have hnw : ∀ b ∈ frs (envOfC qual scope s.heap.objs.size f cd :: outer), b ∉ frs outer → s.heap.get? b = none := fun b hb hn => by
    rcases List.mem_cons.mp hb with rfl | hb
    · exact Heap.get?_none_of_le (Nat.le_refl _)
    · exact absurd hb hn
  obtain ⟨t, he, _, _⟩ := hx.there
  refine wpAny_leaving_firstW (base := PySem.W.hideAll h' (frs (envOfC qual scope s.heap.objs.size f cd :: outer) ++ [e])) (outer := outer) (L := s.heap.objs.size) (a0 := .ref t) I.ok.frames
    (PySem.W.funFrames_hide hF fun env z a ha => List.mem_append_left _ (List.mem_filterMap.mpr ⟨env, z, ha⟩)) rfl he (fun b o z => PySem.W.of_hideAll _ z) (PySem.W.hideAll_none _ (by simp)) rfl rfl rfl fun h2 L => ?_
  obtain ⟨x1, x2, x3⟩ := left_fly (P := P) (w := w) (base := base) (outer := outer) (s := s) (H := H) (H1 := H1) (as := [e]) rfl (fun a ha => by rw [List.mem_singleton.mp ha]; exact ⟨hes, he1⟩) (by simp) I.stkFree (fun b hb => List.mem_cons_of_mem _ hb) hnw hu hok L hF
  exact ⟨e, cls, H1, rfl, I.os, I.bare, x1, x2, x3, q⟩

end

/-- behind a call that raised: the caller's state, and the exception, new since any entry ahead of the call -/
theorem Inv.afterX {X : Cx} {pins : List (Addr × Obj)} {σ : St} {H : Hp} {s s' : Shared} {E : XK} {e : Value} (I : Inv X pins σ H s) (h : CXx X.prog X.w X.stack H s E e s') :
    ∃ a cls H', e = .ref a ∧ Inv X pins σ H' s' ∧ Fly s.heap H' s'.heap a cls ∧ E cls (some a) H' := by
  obtain ⟨a, cls, H', rfl, os, bare, un, hok, fl, q⟩ := h
  exact ⟨a, cls, H', rfl, I.call' (ch := []) os un hok bare (fun b z => absurd z (by simp)), fl, q⟩
end L2
namespace L2
open PySem PySem.Spec PyProof.Rows

/-! ### own exception classes, raise -/
abbrev VE : List Value := [.type "ValueError", .type "Exception", .type "BaseException", .type "object"]
/-- an own exception class that stands at the top: its name, its place, what stands behind it in its order of bases -/
structure OX (K : PySem.W.Frag) (mg : Str → Option Value) (x : Str) (C : Addr) (bm : List Value) : Prop where
  bound : mg x = some (.ref C)
  obj : ∃ N nm q bs hdct sn sub ab col dd k0 k1 k2 k3 k5, K.lookup C = some (excClassObj nm q C N bs bm hdct sn sub ab col dd k0 k1 k2 k3 k5 "ValueError.__new__") ∧ PySem.W.nsOkIn K N = true ∧ PySem.W.nsIn K N "__init__" = some none
  tail : PySem.W.tailIn K VE bm = true
theorem ox_mk {K : PySem.W.Frag} {h : Heap} {mg : Str → Option Value} {x : Str} {C N : Addr} {nm q : Str} {bs bm : List Value} {hdct : Bool} {sn : List Str} {sub : List Value} {ab : Bool} {col : Option Bool} {dd : Option Addr} {k0 k1 k2 k3 k5 : Option Value}
    (X : K.In h) (G : h.Ns mainGlobals mg) (a : PySem.W.nsIn K mainGlobals x = some (some (.ref C))) (l : K.lookup C = some (excClassObj nm q C N bs bm hdct sn sub ab col dd k0 k1 k2 k3 k5 "ValueError.__new__"))
    (e : PySem.W.excIn K C VE "ValueError.__new__" = true) : OX K mg x C bm := by
  unfold PySem.W.excIn at e
  rw [l] at e
  simp only [Bool.and_eq_true, beq_iff_eq, Bool.not_eq_true'] at e
  obtain ⟨⟨⟨⟨⟨_, _⟩, _⟩, ht⟩, hok⟩, hni⟩ := e
  exact ⟨PySem.W.mg_of X G a, ⟨N, nm, q, bs, hdct, sn, sub, ab, col, dd, k0, k1, k2, k3, k5, l, hok, hni⟩, ht⟩

/-- what a body does with an exception that it makes -/
def Throws (X : Cx) (E : XK) : Prop := ∀ (pins : List (Addr × Obj)) (σ : St) (H : Hp) (s : Shared) (e : Addr) (cls : Value) (vs : List Value) (h' : Heap), Inv X pins σ H s → Heap.MadeExcOf s.heap h' e cls vs → E cls (some e) H → X.xe (.ref e) { s with heap := h' }
theorem throwX {P : Program} {w : World} {K : PySem.W.Frag} {mg : Str → Option Value} {base : Heap} {N : List Str} {qual : Str} {scope : Scope} {f : Addr} {cd : Value} {A : Around} {outer : List Env} {s : Shared} {H : Hp} {E : XK} :
    Throws (cxOf (CXx P w) P w K mg base N qual scope f cd A outer s H E) E := fun _ _ _ _ _ _ _ _ I hx q => thrown_made I hx q

/-- raise x(..) -/
def tRaise (C : Addr) (E : XK) (t : TA) : TS := fun _ σ H => t σ H fun vs H1 => vs.length ≤ 1000 ∧ ∀ a, H1 a = none → E (.ref C) (some a) H1
theorem ps_raise {X : Cx} {x : Str} {C : Addr} {bm : List Value} {np cpos pos : Pos} {e₀ : Expr} {rest : List Expr} {t : TA} {E : XK} (O : OX X.K X.mg x C bm) (hc : X.calm = true) (T : Throws X E) (ha : PA X (e₀ :: rest) t) (hg : Gl X x := by rfl)
    (hdb : (x == ("__debug__" : Str)) = false := by decide) (he : starEach (e₀ :: rest) X.env = (false, eval e₀ X.env) :: starEach rest X.env := by rfl) (hpl : (backTo cpos (starEach rest X.env)).any (·.1) = false := by rfl) :
    PS X (.Raise (some (.Call (.Name x np) (e₀ :: rest) [] cpos)) none pos) (tRaise C E t) := by
  intro pins s σ H D I h
  obtain ⟨N, nm, q, bs, hdct, sn, sub, ab, col, dd, k0, k1, k2, k3, k5, lk, hok, hni⟩ := O.obj
  have KB : X.K.In X.base := I.mod.kin
  refine wpAny_Raise_call_subT (C := C) (nm := nm) (q := q) (N := N) (bs := bs) (bm := bm) (hdct := hdct) (sn := sn) (sub := sub) (ab := ab) (col := col) (dd := dd) (k0 := k0) (k1 := k1) (k2 := k2) (k3 := k3) (k5 := k5)
    PySem.F.excBase_ValueError (mN := X.base.nsMap N) ((PySem.W.tail_of_in I.kIn O.tail).hasType rfl) (I.ok.hd hc) (by rw [he]; show (false || (backTo cpos (starEach rest X.env)).any (·.1)) = false; rw [hpl]; rfl) (PySem.W.nsMap_none_of_in KB hok hni) (ld_glob I hg O.bound ⟨rfl, ?_⟩ hdb)
  have h1 := ha cpos pins s σ H _ I h
  rw [he] at h1 ⊢
  refine Calls.evalArgs_plain (wpAny_mono h1 (fun us s₂ ⟨vs, H1, I1, r, hl, q⟩ => ⟨rfl, ?_, I1.kIn _ _ lk, ?_, PySem.W.tail_of_in I1.kIn O.tail, fun h' e hm => ?_⟩) fun _ _ y => y)
  · rw [← r.length]; exact Nat.le_of_lt (small1000 hl)
  · exact (Heap.Ns.of_isNs (PySem.W.isNs_of_in KB hok)).keeps I1.bk
  · refine T pins σ H1 s₂ e _ _ h' I1 hm (q e ?_)
    cases z : H1 e with
    | none => rfl
    | some o =>
      obtain ⟨o', e1⟩ := ObjOk.there (I1.hok e o z)
      rw [hm.new] at e1; cases e1

/-! ### defs that may raise -/
def HasX (P : Program) (w : World) (K : PySem.W.Frag) (mg : Str → Option Value) (base : Heap) (k : Nat) (x : Str) (ps : List Str) (sp : Sp) : Prop :=
  ∃ f fd, FnOk P w K mg base (CXx P w) k f fd ps sp ∧ (∀ us : List Value, us.length = ps.length → bindArgs fd ⟨us, []⟩ = pure (ps.zip us)) ∧ PySem.W.keepIn K (.ref f) = true ∧ mg x = some (.ref f)
theorem HasX.mono {P : Program} {w : World} {K : PySem.W.Frag} {mg : Str → Option Value} {base : Heap} {j k : Nat} {x : Str} {ps : List Str} {sp : Sp} (h : HasX P w K mg base j x ps sp) (hk : j ≤ k) : HasX P w K mg base k x ps sp :=
  let ⟨f, fd, F, b⟩ := h
  ⟨f, fd, F.mono hk, b⟩
theorem HasX.imp {P : Program} {w : World} {K : PySem.W.Frag} {mg : Str → Option Value} {base : Heap} {k : Nat} {x : Str} {ps : List Str} {sp sp' : Sp} (h : HasX P w K mg base k x ps sp) (i : ∀ vs H Q E, sp' vs H Q E → sp vs H Q E) : HasX P w K mg base k x ps sp' :=
  let ⟨f, fd, F, b⟩ := h
  ⟨f, fd, F.imp i, b⟩
theorem TF.hasX {P : Program} {w : World} {K : PySem.W.Frag} {mg : Str → Option Value} {base : Heap} {x : Str} {st : Stmt} {N ps : List Str} {k : Nat} {sp : Sp} (T : TF K mg x st) (S : FnScope N ps (defScope st))
    (hb : ∀ (kV doc pm : Value) (an : Option Addr) (cdv ct : Value) (us : List Value), us.length = ps.length → bindArgs (PySem.W.fnOf x x (defArgs st) (defBody st) (defScope st) .none kV doc pm an cdv ct) ⟨us, []⟩ = pure (ps.zip us))
    (len : ∀ vs H Q E, sp vs H Q E → vs.length = ps.length)
    (hbody : ∀ (f : Addr) (cdv : Value) (A : Around) (outer : List Env) (s : Shared) (H : Hp) (vs : List V) (Q : VK) (E : XK), Room k (A.deeper (envOfC x (defScope st) s.heap.objs.size f cdv)) → sp vs H Q E →
      ∃ t, PSs (cxOf (CXx P w) P w K mg base N x (defScope st) f cdv A outer s H E) (defBody st) t ∧ t { nx := fun _ H' => Q .non H', rt := Q } (start N vs) H) : HasX P w K mg base (k + 1) x ps sp := by
  obtain ⟨f, fd, F, m⟩ := T
  obtain ⟨oc, od, kV, doc, pm, an, cdv, ct, osl, rfl, lk, hcd⟩ := F.ex
  exact ⟨f, _, fn_of lk hcd S len fun A outer s H vs Q E hr hsp => hbody f cdv A outer s H vs Q E hr hsp, hb kV doc pm an cdv ct, F.kp, m⟩
end L2
namespace L2
open PySem PySem.Spec PyProof.Rows

/-! ### try: an exception of a callee seen by the frame that tries -/
section
variable {X : Cx} {pins : List (Addr × Obj)} {σ : St} {H : Hp} {s : Shared}
/-- b is none of the things that the body's state speaks of -/
def Ap (X : Cx) (pins : List (Addr × Obj)) (b : Addr) : Prop := X.s₀.heap.get? b = none ∧ b ≠ X.env.locals ∧ (∀ x c, X.env.cells.lookup x = some c → c ≠ b) ∧ b ∉ X.fs ∧ ∀ p ∈ X.pn ++ pins, p.1 ≠ b
theorem Inv.ap (I : Inv X pins σ H s) (hx : X.ex = []) {b : Addr} (hb : s.heap.get? b = none) : Ap X pins b := by
  have no : ∀ {c : Addr}, (∃ o, s.heap.get? c = some o) → c ≠ b := fun {c} ⟨o, e⟩ z => by rw [z, hb] at e; cases e
  refine ⟨?_, (no (let ⟨_, ⟨o, _, _, e, _⟩, _⟩ := I.loc; ⟨o, e⟩)).symm, fun x c e => no (let ⟨_, o, q, _⟩ := I.cell x c e; ⟨o, q⟩), fun z => no (let ⟨_, o, e, _⟩ := I.funs.mem z; ⟨o, e⟩) rfl, fun p hp => no ⟨_, (I.pin p hp).1⟩⟩
  cases q : X.s₀.heap.get? b with
  | none => rfl
  | some o => exact absurd rfl (no (I.base.there b o q (by rw [hx]; simp)))
theorem Inv.exs {as : List Addr} (I : Inv X pins σ H s) (has : ∀ a ∈ as, Ap X pins a) : Inv { X with ex := X.ex ++ as } pins σ H s := by
  have ok := I.ok
  refine ⟨⟨ok.mod, ok.kind, ok.glob, ok.blt, ok.above, ok.inj, ok.has, ok.cab, ok.hd, ok.frames, ok.stk, fun b hb => ?_, ok.bs, ok.bsz, fun b o e hb => ?_, fun b hb => ?_, ok.funs, ok.frf⟩, I.os, I.bare,
    I.base.mono (fun _ h => h) (fun b hb => List.mem_append_left _ hb), I.loc, I.cell, I.free, I.freeC, I.pin, I.hok, I.len⟩
  · exact (List.mem_append.mp hb).elim (ok.exf b) fun z => ⟨(has b z).2.1, (has b z).2.2.1⟩
  · refine (List.mem_append.mp hb).elim (ok.noex b o e) fun z => ?_
    have := (ok.bs b o e).1
    rw [(has b z).1] at this; cases this
  · exact (List.mem_append.mp hb).elim (ok.exfs b) fun z => (has b z).2.2.2.1
theorem Inv.unexs {as : List Addr} (I : Inv { X with ex := X.ex ++ as } pins σ H s) (ok : X.Ok) (has : ∀ a ∈ as, X.s₀.heap.get? a = none) : Inv X pins σ H s := by
  have ne : ∀ b o, X.s₀.heap.get? b = some o → b ∉ X.ex → b ∉ X.ex ++ as := fun b o e hx hb => (List.mem_append.mp hb).elim hx fun z => by rw [has b z] at e; cases e
  exact ⟨ok, I.os, I.bare, ⟨fun b o e n hb hx => I.base.keep b o e n hb (ne b o e hx), fun b o e n hb hx => I.base.slot b o e n hb (ne b o e hx), fun b o e n hx => I.base.free b o e n (ne b o e hx), fun b o e hx => I.base.there b o e (ne b o e hx),
    I.base.tups, I.base.frzs, I.base.tbls⟩, I.loc, I.cell, I.free, I.freeC, I.pin, I.hok, I.len⟩

/-- the objects of an exception turn, the frames' slots change -/
theorem Inv.fly {as : List Addr} {h' : Heap} (I : Inv X pins σ H s) (has : ∀ a ∈ as, Ap X pins a ∧ H a = none)
    (keep : ∀ b o, b ∉ frs X.stack ++ as → s.heap.get? b = some o → h'.get? b = some o) (slot : ∀ b o, b ∈ frs X.stack → s.heap.get? b = some o → ∃ sl, h'.get? b = some { o with slots := sl }) : Inv X pins σ H { s with heap := h' } := by
  have u : Un (frs X.stack) as H H s.heap h' := ⟨fun b o q _ hb hx => keep b o (fun z => (List.mem_append.mp z).elim hb hx) q, fun b o q _ hb _ => slot b o hb q, fun _ _ _ n _ => n, fun b o q hx => by
      by_cases hb : b ∈ frs X.stack
      · obtain ⟨sl, e⟩ := slot b o hb q; exact ⟨_, e⟩
      · exact ⟨o, keep b o (fun z => (List.mem_append.mp z).elim hb hx) q⟩, fun _ _ e => e, fun _ _ _ e => e, fun _ ps e => ⟨#[], by rw [e]; simp⟩⟩
  have hok : HOk X.prog X.w H h' := I.hok.but _ (fun a z => (List.mem_append.mp z).elim (I.stkFree a) fun y => (has a y).2) keep
  have J := (I.exs fun a z => (has a z).1).call (g' := s.gens) (t' := s.toks) (d' := s.drawn) (ch := as) u hok I.bare fun b hb => ⟨.inl (List.mem_append_right _ hb), (has b hb).1.2.1, (has b hb).1.2.2.1, (has b hb).1.2.2.2.2⟩
  exact J.unexs I.ok fun a z => (has a z).1.1

/-- an exception that came from a callee, at the frame that called -/
def FlyAt (X : Cx) (pins : List (Addr × Obj)) (H : Hp) (h : Heap) (a : Addr) (cls : Value) : Prop :=
  ∃ oe vs T oT ts a0, h.get? a = some oe ∧ (oe.cls = cls ∧ vs[0]? = some a0) ∧ oe.data = .fields vs ∧ vs[1]? = some (.ref T) ∧ T ≠ a ∧ h.get? T = some oT ∧ oT.data = .fields ts ∧ ts[3]? = some .none ∧ ∀ b ∈ [a, T], Ap X pins b ∧ H b = none
def XE (X : Cx) (pins : List (Addr × Obj)) (σ : St) (E : XK) (e : Value) (s' : Shared) : Prop := ∃ a cls H', e = .ref a ∧ Inv X pins σ H' s' ∧ FlyAt X pins H' s'.heap a cls ∧ E cls (some a) H'
theorem Inv.afterXE {s' : Shared} {E : XK} {e : Value} (hx : X.ex = []) (I : Inv X pins σ H s) (h : CXx X.prog X.w X.stack H s E e s') : XE X pins σ E e s' := by
  obtain ⟨a, cls, H', rfl, I', fl, q⟩ := Inv.afterX I h
  obtain ⟨oe, vs, T, oT, ts, a0, he, hc, hd, hv1, hTe, hT, hdT, h3, hsT, hHT⟩ := fl.obj
  refine ⟨a, cls, H', rfl, I', ⟨oe, vs, T, oT, ts, a0, he, hc, hd, hv1, hTe, hT, hdT, h3, fun b hb => ?_⟩, q⟩
  rcases List.mem_cons.mp hb with rfl | hb
  · exact ⟨I.ap hx fl.new, fl.free⟩
  · rw [List.mem_singleton.mp hb]; exact ⟨I.ap hx hsT, hHT⟩

/-- the library's picture of it, with all else kept -/
theorem FlyAt.held {a T : Addr} {cls a0 : Value} {h5 : Heap} (hx : X.ex = []) (I : Inv X pins σ H s) (has : ∀ b ∈ [a, T], Ap X pins b ∧ H b = none)
    (hfl : Heap.FlyingW (PySem.W.hideAll s.heap (frs X.stack ++ [a, T])) X.stack a cls a0 h5) (sm : s.heap.UpToSlots h5) : Inv X pins σ H { s with heap := h5 } ∧ FlyAt X pins H h5 a cls := by
  have keep : ∀ b o, b ∉ frs X.stack ++ [a, T] → s.heap.get? b = some o → h5.get? b = some o := fun b o hb q => hfl.1 b o (PySem.W.hideAll_get _ q hb)
  have slot : ∀ b o, b ∈ frs X.stack → s.heap.get? b = some o → ∃ sl, h5.get? b = some { o with slots := sl } := fun b o hb q => by
    obtain ⟨_, o', ho', hn⟩ := I.stack.mem hb
    rw [q] at ho'; cases ho'
    exact sm b o q hn
  have I' := I.fly (as := [a, T]) has keep slot
  obtain ⟨_, _, k2, oe, vs, T', oT, ts, he, hc, hd, hv1, hnT, hTe, hT, hdT, h3⟩ := hfl
  have hTf : T' ∉ frs X.stack := fun z => by
    obtain ⟨_, o, ho, hn⟩ := k2.mem z
    rw [hT] at ho; cases ho; exact hn _ hdT
  have hT' : Ap X pins T' ∧ H T' = none := by
    cases q : s.heap.get? T' with
    | none =>
      refine ⟨I.ap hx q, ?_⟩
      cases z : H T' with
      | none => rfl
      | some o =>
        obtain ⟨o', e⟩ := ObjOk.there (I.hok T' o z)
        rw [q] at e; cases e
    | some o =>
      refine has T' ?_
      by_cases z : T' ∈ frs X.stack ++ [a, T]
      · exact (List.mem_append.mp z).elim (fun y => absurd y hTf) id
      · have := PySem.W.hideAll_get (h := s.heap) _ q z
        rw [hnT] at this; cases this
  refine ⟨I', oe, vs, T', oT, ts, a0, he, hc, hd, hv1, hTe, hT, hdT, h3, fun b hb => ?_⟩
  rcases List.mem_cons.mp hb with rfl | hb
  · exact has _ (by simp)
  · rw [List.mem_singleton.mp hb]; exact hT'

theorem seen {M : Model} {a : Addr} {cls : Value} {Q : Shared → Prop} {A' : Around} {E1 E2 : Value → Shared → Prop} (hx : X.ex = []) (hst : X.stack = X.env :: X.outer) (hf : X.env.frame = some X.env.locals) (I : Inv X pins σ H s) (fl : FlyAt X pins H s.heap a cls)
    (h : ∀ h5, Inv X pins σ H { s with heap := h5 } → FlyAt X pins H h5 a cls → Q { s with heap := h5 }) :
    wpAny M X.A (noteFrame (.ref a) X.env) (fun _ s2 => wpAny M A' (setFlight (.ref a) none) (fun _ s3 => Q s3) E1 s2) E2 s := by
  obtain ⟨oe, vs, T, oT, ts, a0, he, hc, hd, hv1, hTe, hT, hdT, h3, has⟩ := fl
  have hFB : s.heap.FunFrames (PySem.W.hideAll s.heap (frs X.stack ++ [a, T])) X.stack := PySem.W.funFrames_hide I.stack fun env z b hb => List.mem_append_left _ (List.mem_filterMap.mpr ⟨env, z, hb⟩)
  have hfl : Heap.FlyingW (PySem.W.hideAll s.heap (frs X.stack ++ [a, T])) X.stack a cls a0 s.heap :=
    ⟨fun b o z => PySem.W.of_hideAll _ z, PySem.W.hideAll_none _ (by simp), hFB, oe, vs, T, oT, ts, he, hc, hd, hv1, PySem.W.hideAll_none _ (by simp), hTe, hT, hdT, h3⟩
  have hfr := I.ok.frames
  refine wpAny_looks_onW (base := PySem.W.hideAll s.heap (frs X.stack ++ [a, T])) (outer := X.outer) (cls := cls) (a0 := a0) (by rw [hfr, hst]) hf (by rw [← hst]; exact hfl) fun h4 hheld sm4 => ?_
  refine wpAny_landsW hheld fun h5 hfl5 sm5 => ?_
  rw [← hst] at hfl5
  obtain ⟨I5, F5⟩ := FlyAt.held hx I has hfl5 (sm4.trans sm5)
  exact h h5 I5 F5
/-- .. and again at the suite -/
theorem seen2 {M : Model} {a : Addr} {cls : Value} {Q : Unit → Shared → Prop} {A' : Around} {E1 : Value → Shared → Prop} (hx : X.ex = []) (I : Inv X pins σ H s) (fl : FlyAt X pins H s.heap a cls)
    (h : ∀ h5, Inv X pins σ H { s with heap := h5 } → FlyAt X pins H h5 a cls → Q () { s with heap := h5 }) : wpAny M A' (setFlight (.ref a) none) Q E1 s := by
  obtain ⟨oe, vs, T, oT, ts, a0, he, hc, hd, hv1, hTe, hT, hdT, h3, has⟩ := fl
  have hFB : s.heap.FunFrames (PySem.W.hideAll s.heap (frs X.stack ++ [a, T])) X.stack := PySem.W.funFrames_hide I.stack fun env z b hb => List.mem_append_left _ (List.mem_filterMap.mpr ⟨env, z, hb⟩)
  have hfl : Heap.FlyingW (PySem.W.hideAll s.heap (frs X.stack ++ [a, T])) X.stack a cls a0 s.heap :=
    ⟨fun b o z => PySem.W.of_hideAll _ z, PySem.W.hideAll_none _ (by simp), hFB, oe, vs, T, oT, ts, he, hc, hd, hv1, PySem.W.hideAll_none _ (by simp), hTe, hT, hdT, h3⟩
  refine lands_againW hfl fun h5 hfl5 sm5 => ?_
  obtain ⟨I5, F5⟩ := FlyAt.held hx I has hfl5 sm5
  exact h h5 I5 F5

/-- an exception that was caught: a thing of the world, known by its class -/
def excO (a : Addr) (cls : Value) : HO := .ext fun h => ∃ o, h.get? a = some o ∧ o.cls = cls
theorem Inv.track {a : Addr} {cls : Value} (I : Inv X pins σ H s) (fl : FlyAt X pins H s.heap a cls) : Inv X pins σ (upd H a (excO a cls)) s := by
  obtain ⟨oe, vs, T, oT, ts, a0, he, ⟨hc, _⟩, _, _, _, _, _, _, has⟩ := fl
  obtain ⟨ap, hn⟩ := has a (by simp)
  have u : Un (frs X.stack) [a] H (upd H a (excO a cls)) s.heap s.heap := ⟨fun b o q _ _ _ => q, fun b o q _ _ _ => ⟨o.slots, q⟩, fun b o _ n hb => by rw [upd_ne (fun z => hb (by simp [z]))]; exact n, fun b o q _ => ⟨o, q⟩,
    fun b xs e => by rw [upd_ne (ne_of_none e hn)]; exact e, fun b o x e => by rw [upd_ne (ne_of_none e hn)]; exact e, fun b ps e => ⟨#[], by rw [upd_ne (ne_of_none e hn), e]; simp⟩⟩
  have hok : HOk X.prog X.w (upd H a (excO a cls)) s.heap := fun b o e => by
    by_cases z : b = a
    · subst z
      rw [upd_same] at e
      cases e
      exact ⟨⟨oe, he, hc⟩, ⟨oe, he⟩, fun h1 h2 ⟨o, e1, c1⟩ k => ⟨o, k o e1, c1⟩⟩
    · rw [upd_ne z] at e
      exact (I.hok b o e).stay (fun c v _ q => q) (fun c q => by
        rw [upd_ne (ne_of_none q hn)]; exact q) fun c xs q => by rw [upd_ne (ne_of_none q hn)]; exact q
  have J := (I.exs (as := [a]) fun b hb => by rw [List.mem_singleton.mp hb]; exact ap).call (g' := s.gens) (t' := s.toks) (d' := s.drawn) (ch := [a]) u hok I.bare fun b hb => by
    rw [List.mem_singleton.mp hb]
    exact ⟨.inl (List.mem_append_right _ (by simp)), ap.2.1, ap.2.2.1, ap.2.2.2.2⟩
  exact J.unexs I.ok fun b hb => by rw [List.mem_singleton.mp hb]; exact ap.1
end
end L2
namespace L2
open PySem PySem.Spec PyProof.Rows

theorem nsFind_eraseIdx {es : Array DictEntry} {i : Nat} {name y : Str} (hi : es.findIdx? (·.key.isStr name) = some i) (hy : y ≠ name) : nsFind (es.eraseIdxIfInBounds i) y = nsFind es y := by
  obtain ⟨l⟩ := es
  have h1 := Array.findIdx?_eq_some_iff_getElem.mp hi
  obtain ⟨hlt, hp, _⟩ := h1
  unfold nsFind findBy
  have e : (({ toList := l } : Array DictEntry).eraseIdxIfInBounds i) = { toList := l.eraseIdx i } := by
    unfold Array.eraseIdxIfInBounds
    rw [dif_pos hlt]
    simp
  rw [e, ← Array.find?_toList, ← Array.find?_toList, find_eraseIdx]
  intro a ha
  have hlt' : i < l.length := by simpa using hlt
  rw [List.getElem?_eq_getElem hlt'] at ha
  cases ha
  have hp' : l[i].key.isStr name = true := by simpa using hp
  cases q : l[i].key.isStr y with
  | false => exact q
  | true =>
    exfalso
    revert hp' q
    cases l[i].key <;> simp [Value.isStr]
    intro a b
    exact hy (b.symm.trans a)

section
variable {M : Model} {A : Around} {E : Value → Shared → Prop} {s : Shared}
/-- a name goes; the others stay -/
theorem nsDel_keeps {a : Addr} {m : Str → Option Value} {name : Str} {Q : Bool → Shared → Prop} (hn : s.heap.Ns a m)
    (hQ : ∀ h' m', h'.Ns a m' → (∀ y, y ≠ name → m' y = m y) → Heap.SameBut a s.heap h' → Q (m name).isSome { s with heap := h' }) : wpAny M A (nsDel a name) Q E s := by
  obtain ⟨o, es, ep, ho, hd, hk, hm⟩ := id hn
  have hany : es.any (·.refKey) = false := by
    rw [Array.any_eq_false']; intro e he; obtain ⟨n, t, h⟩ := hk e he; simp [DictEntry.refKey, h]
  have hsome : (m name).isSome = es.any (·.key.isStr name) := by
    rw [← hm name]; simp only [nsFind, findBy, Option.isSome_map]
    rw [Bool.eq_iff_iff]; simp only [Array.find?_isSome, Array.any_eq_true]
    constructor
    · rintro ⟨x, hx, hp⟩; obtain ⟨i, hi, rfl⟩ := Array.mem_iff_getElem.mp hx; exact ⟨i, hi, hp⟩
    · rintro ⟨i, hi, hp⟩; exact ⟨_, Array.getElem_mem hi, hp⟩
  have hhas : nsHas name o = pure (es.any (·.key.isStr name)) := by
    rw [nsHas_eq]; unfold nsHasByArray; rw [hd]
    show (if (es.any fun x => x.key.isStr name) = true then _ else _) = _
    generalize (es.any fun x => x.key.isStr name) = b
    cases b <;> simp [hany]
  unfold nsDel
  refine wpAny_bind (wpAny_loadPart ho ?_)
  rw [hhas]
  refine wpAny_bind (wpAny_pure ?_)
  rw [← hsome]
  cases hmn : (m name).isSome
  · have := hQ s.heap m hn (fun _ _ => rfl) (.refl ..)
    rw [hmn] at this
    exact wpAny_pure this
  · refine wpAny_bind (wpAny_updatePart ho (wpAny_pure ?_))
    have key : ∃ m', (s.heap.update a (Obj.dropName name)).Ns a m' ∧ ∀ y, y ≠ name → m' y = m y := by
      obtain ⟨cl, d, dt, sl⟩ := o
      subst hd
      cases hi : es.findIdx? (·.key.isStr name) with
      | some i => exact ⟨_, ⟨_, _, ep + 1, Heap.get?_update_self _ ho (by simp only [Obj.dropName_eq, Obj.dropNameByArray, hi] <;> rfl), (by simp only [Obj.dropName_eq, Obj.dropNameByArray, hi] <;> rfl), hk.erase i, fun _ => rfl⟩, fun y hy => (nsFind_eraseIdx hi hy).trans (hm y)⟩
      | none => exact ⟨_, ⟨_, _, ep, Heap.get?_update_self _ ho (by simp only [Obj.dropName_eq, Obj.dropNameByArray, hi] <;> rfl), (by simp only [Obj.dropName_eq, Obj.dropNameByArray, hi] <;> rfl), hk, fun _ => rfl⟩, fun y _ => hm y⟩
    obtain ⟨m', hm', hy⟩ := key
    have := hQ _ m' hm' hy (Heap.SameBut.update ..)
    rw [hmn] at this
    exact this
end

/-- behind an except suite with a name: the name goes -/
theorem name_goes {X : Cx} {pins : List (Addr × Obj)} {σ : St} {H : Hp} {s : Shared} {A : Around} {E : Value → Shared → Prop} {i : Nat} {n : Str} {pos : Pos} {Q : Unit → Shared → Prop} (I : Inv X pins σ H s) (hN : X.N.Nodup) (hi : X.N[i]? = some n) (hl : X.env.scope.names.lookup n = some .local)
    (h : ∀ s', Inv X pins (σ.set i none) H s' → Q () s') : wpAny (model X.prog X.w) A (do bindName X.env n .none; unbindBehindTheSuite X.env n pos) Q E s := by
  have hp : (X.env.scope.kind == .class || (X.env.scope.kind == .module && X.env.locals != X.env.globals)) = false := by rw [I.ok.kind]; rfl
  have hkl : X.env.kindOf n = some .local := hl
  refine wpAny_bind (wpAny_bindName (store_ok (v := .non) (u := .none) I hN hi (.inl hl) rfl (fun s1 I1 => ?_) (.inr hl)))
  unfold unbindBehindTheSuite
  refine wpAny_onRaise ?_
  unfold unbindName
  refine wpAny_bind (wpAny_point (wpAny_bind ?_))
  unfold deleteName
  simp only [hkl, hp]
  rw [if_neg (by decide)]
  obtain ⟨m, hn, hlk⟩ := id I1.loc
  refine wpAny_bind (nsDel_keeps hn fun h₂ m₂ hn₂ hy hs₂ => ?_)
  have hmn : (m n).isSome = true := by
    have hiσ : i < σ.length := by rw [I.len]; exact (List.getElem?_eq_some_iff.mp hi).1
    obtain ⟨u, _, l⟩ := hlk i n .non hi (by rw [List.getElem?_set_self hiσ]) (.inl hl)
    rcases l with ⟨_, e⟩ | ⟨k, _⟩
    · rw [e]; rfl
    · rw [hkl] at k
      rcases k with k | k <;> cases k
  rw [hmn]
  simp only [if_true, Bool.not_true, Bool.false_eq_true, if_false]
  refine wpAny_pure (wpAny_point (h _ ?_))
  obtain ⟨hp1, g1, d1, t1, os1⟩ := s1
  have hok : HOk X.prog X.w H h₂ := I1.hok.but [X.env.locals] (fun a ha => by rw [List.mem_singleton.mp ha]; exact I1.free) fun b o hb q => (hs₂.2 b (fun z => hb (by simp [z]))).trans q
  have oth : ∀ b, b ≠ X.env.locals → h₂.get? b = hp1.get? b := fun b hb => hs₂.2 b hb
  have neL : ∀ b o, X.s₀.heap.get? b = some o → b ≠ X.env.locals := fun b o e => Nat.ne_of_lt (Nat.lt_of_lt_of_le (Heap.lt_size e) I1.ok.above)
  have cellK : ∀ x c, X.env.cells.lookup x = some c → ∀ v, hp1.IsCell c v → h₂.IsCell c v := fun x c e v ⟨o, ho, hd⟩ => ⟨o, (oth c (I1.cne x c e)).trans ho, hd⟩
  refine ⟨I1.ok, I1.os, I1.bare, ⟨fun b o e n hb hx => (oth b (neL b o e)).trans (I1.base.keep b o e n hb hx), fun b o e n hb hx => ?_, I1.base.free, fun b o e hx => ?_, I1.base.tups, I1.base.frzs, I1.base.tbls⟩, ⟨m₂, hn₂, fun j y v e1 e2 e3 => ?_⟩,
    fun x c e => ?_, I1.free, I1.freeC, fun p hp => ?_, hok, by rw [List.length_set]; exact I.len⟩
  · obtain ⟨sl, q⟩ := I1.base.slot b o e n hb hx
    exact ⟨sl, (oth b (neL b o e)).trans q⟩
  · obtain ⟨o', q⟩ := I1.base.there b o e hx
    exact ⟨o', (oth b (neL b o e)).trans q⟩
  · have hji : j ≠ i := fun z => by
      subst z
      rw [List.getElem?_set] at e2
      split at e2
      · split at e2 <;> cases e2
      · rename_i z; exact z rfl
    have hyn : y ≠ n := fun z => hji (nodup_ix hN e1 (z ▸ hi))
    obtain ⟨u, r, l⟩ := hlk j y v e1 (by rw [List.getElem?_set_ne (Ne.symm hji)] at e2 ⊢; exact e2) e3
    refine ⟨u, r, ?_⟩
    rcases l with ⟨k, e⟩ | ⟨k, c, e, z⟩
    · exact .inl ⟨k, (hy y hyn).trans e⟩
    · exact .inr ⟨k, c, e, cellK y c e _ z⟩
  · obtain ⟨v, z⟩ := I1.cell x c e
    exact ⟨v, cellK x c e v z⟩
  · obtain ⟨e, n', ne, nf, d⟩ := I1.pin p hp
    exact ⟨(oth p.1 ne).trans e, n', ne, nf, d⟩

/-! ### the context of an except suite -/
/-- within the suite: the exception is the one that is handled; nothing leaves -/
abbrev Cx.suite (X : Cx) (a : Addr) : Cx := { X with A := X.A.mark (some (.ref a)), calm := false, xe := fun _ _ => False }
section
variable {X : Cx} {pins : List (Addr × Obj)} {σ : St} {H : Hp} {s : Shared} {a : Addr}
theorem Inv.suite (I : Inv X pins σ H s) (a : Addr) : Inv (X.suite a) pins σ H s :=
  have ok := I.ok
  ⟨⟨ok.mod, ok.kind, ok.glob, ok.blt, ok.above, ok.inj, ok.has, ok.cab, fun z => (Bool.false_ne_true z).elim, ok.frames, ok.stk, ok.exf, ok.bs, ok.bsz, ok.noex, ok.exfs, ok.funs, ok.frf⟩, I.os, I.bare, I.base, I.loc, I.cell, I.free, I.freeC, I.pin, I.hok, I.len⟩
theorem Inv.unsuite (I : Inv (X.suite a) pins σ H s) (ok : X.Ok) : Inv X pins σ H s := ⟨ok, I.os, I.bare, I.base, I.loc, I.cell, I.free, I.freeC, I.pin, I.hok, I.len⟩
theorem SP.unsuite {D : Ends} {f : Flow} (h : SP (X.suite a) pins D f s) (ok : X.Ok) : SP X pins D f s := by
  cases f with
  | next => obtain ⟨σ', H', I, q⟩ := h; exact ⟨σ', H', I.unsuite ok, q⟩
  | brk => obtain ⟨σ', H', I, q⟩ := h; exact ⟨σ', H', I.unsuite ok, q⟩
  | cont => obtain ⟨σ', H', I, q⟩ := h; exact ⟨σ', H', I.unsuite ok, q⟩
  | ret u => obtain ⟨v, σ', H', I, r, q⟩ := h; exact ⟨v, σ', H', I.unsuite ok, r, q⟩
end
end L2
namespace L2
open PySem PySem.Spec PyProof.Rows

section
variable {M : Model} {A : Around} {E : Value → Shared → Prop}
variable {nm q nm' q' : Str} {C N C' N' : Addr} {bs bm bs' bm' : List Value} {hdct hdct' : Bool} {sn sn' : List Str} {sub sub' : List Value} {ab ab' : Bool} {col col' : Option Bool} {dd dd' : Option Addr} {k0 k1 k2 k3 k5 l0 l1 l2 l3 l5 : Option Value} {newId newId' : String}
/-- an exception of an own class against an own class -/
theorem excMatches_own {h : Heap} {g : Array GenState} {d : Drawn} {t : Nat} {os : OsState} {e : Addr} {oe : Obj} {Q : Bool → Shared → Prop}
    (hC : h.get? C = some (excClassObj nm q C N bs bm hdct sn sub ab col dd k0 k1 k2 k3 k5 newId)) (hC' : h.get? C' = some (excClassObj nm' q' C' N' bs' bm' hdct' sn' sub' ab' col' dd' l0 l1 l2 l3 l5 newId'))
    (he : h.get? e = some oe) (hcls : oe.cls = .ref C) (hbase : bm'.contains (.type "BaseException") = true)
    (hq : Q ((Value.ref C :: bm).contains (.ref C')) ⟨h, g, d, t, os⟩) : wpAny M A (excMatches (.ref e) (.ref C')) Q E ⟨h, g, d, t, os⟩ := by
  have hcB : (Value.ref C' :: bm').contains (.type "BaseException") = true := by rw [List.contains_cons, hbase, Bool.or_true]
  have f := tc_notTuple
  unfold excMatches
  repeat (first | (with_reducible refine wpAny_loadPart_at he ?_; rw [hcls]) | with_reducible refine wpAny_loadPart_at hC' ?_ | (with_reducible refine wpAny_isSubtype_exc hC' ?_; rw [hcB]) | with_reducible refine wpAny_isSubtype_exc hC ?_ | wp_step)
  cases hb : (Value.ref C :: bm).contains (.ref C') <;> (rw [hb] at hq; wp_walk; exact hq)
end

/-- the test of an except clause -/
def PM (X : Cx) (t : Expr) (cls : Value) (tm : TT) : Prop :=
  ∀ (pins : List (Addr × Obj)) (s : Shared) (σ : St) (H : Hp) (a : Addr) (oa : Obj) (Q : Bool → Hp → Prop), Inv X pins σ H s → (a, oa) ∈ pins → oa.cls = cls → tm σ H Q →
    wpAny (model X.prog X.w) X.A (eval t X.env) (fun c s1 => wpAny (model X.prog X.w) X.A (excMatches (.ref a) c) (TP X pins σ Q) (fun _ _ => False) s1) (fun _ _ => False) s
def tBool (b : Bool) : TT := fun _ H Q => Q b H
theorem pm_own {X : Cx} {x x' : Str} {C C' : Addr} {bm bm' : List Value} {p : Pos} (O : OX X.K X.mg x C bm) (O' : OX X.K X.mg x' C' bm') (hg : Gl X x' := by rfl) (hdb : (x' == ("__debug__" : Str)) = false := by decide) :
    PM X (.Name x' p) (.ref C) (tBool ((Value.ref C :: bm).contains (.ref C'))) := by
  intro pins s σ H a oa Q I hp hc h
  obtain ⟨N, nm, q, bs, hdct, sn, sub, ab, col, dd, k0, k1, k2, k3, k5, lk, _, _⟩ := O.obj
  obtain ⟨N', nm', q', bs', hdct', sn', sub', ab', col', dd', l0, l1, l2, l3, l5, lk', _, _⟩ := O'.obj
  refine ld_glob I hg O'.bound ?_ hdb
  obtain ⟨hp', g, d, t, os⟩ := s
  exact excMatches_own (I.kIn _ _ lk) (I.kIn _ _ lk') (I.pin _ (List.mem_append_right _ hp)).1 hc ((PySem.W.tail_of_in I.kIn O'.tail).hasType rfl) ⟨H, I, h⟩
/-! ### except clauses -/
/-- a list of clauses: the exception's place, its class; nothing leaves the suites -/
def PH (X : Cx) (hs : List ExceptHandler) (t : Addr → Value → TS) : Prop :=
  ∀ (pins : List (Addr × Obj)) (s : Shared) (σ : St) (H : Hp) (D : Ends) (a : Addr) (cls : Value), Inv X pins σ H s → FlyAt X pins H s.heap a cls → t a cls D σ H →
    wpAny (model X.prog X.w) X.A (handleBy (.ref a) X.env hs) (SP X pins D) (fun _ _ => False) s

theorem Inv.pinX {X : Cx} {pins : List (Addr × Obj)} {σ : St} {H : Hp} {s : Shared} {a : Addr} {cls : Value} (I : Inv X pins σ H s) (fl : FlyAt X pins H s.heap a cls) :
    ∃ oa T oT, Inv X ([(a, oa), (T, oT)] ++ pins) σ H s ∧ oa.cls = cls ∧ ∀ {H' : Hp} {s' : Shared}, Inv X ([(a, oa), (T, oT)] ++ pins) σ H' s' → FlyAt X pins H' s'.heap a cls := by
  obtain ⟨oe, vs, T, oT, ts, a0, he, hc, hd, hv1, hTe, hT, hdT, h3, has⟩ := fl
  refine ⟨oe, T, oT, I.pins_of fun p hp => ?_, hc.1, fun {H' s'} J => ?_⟩
  · rcases List.mem_append.mp hp with z | z
    · rcases List.mem_cons.mp z with rfl | z
      · exact ⟨he, (has a (by simp)).2, (has a (by simp)).1.2.1, (has a (by simp)).1.2.2.2.1, fun v e => by rw [hd] at e; cases e⟩
      · rw [List.mem_singleton.mp z]
        exact ⟨hT, (has T (by simp)).2, (has T (by simp)).1.2.1, (has T (by simp)).1.2.2.2.1, fun v e => by rw [hdT] at e; cases e⟩
    · exact I.pin p (List.mem_append_right _ z)
  · have pa := J.pin (a, oe) (List.mem_append_right _ (by simp))
    have pT := J.pin (T, oT) (List.mem_append_right _ (by simp))
    refine ⟨oe, vs, T, oT, ts, a0, pa.1, hc, hd, hv1, hTe, pT.1, hdT, h3, fun b hb => ?_⟩
    rcases List.mem_cons.mp hb with rfl | hb
    · exact ⟨(has _ (by simp)).1, pa.2.1⟩
    · rw [List.mem_singleton.mp hb]; exact ⟨(has T (by simp)).1, pT.2.1⟩
theorem Inv.unpin {X : Cx} {pins more : List (Addr × Obj)} {σ : St} {H : Hp} {s : Shared} (I : Inv X (more ++ pins) σ H s) : Inv X pins σ H s := I.pins_of fun p hp => I.pin p (List.mem_append_right _ (List.mem_append_right _ hp))

/-- a clause: cls0 the class that the exception has; its test; what is wanted of its suite; of the clauses behind it -/
def tClause (cls0 : Value) (tm : TT) (take rest : Addr → Value → TS) : Addr → Value → TS := fun a cls D σ H => cls = cls0 ∧ tm σ H fun b H' => if b = true then take a cls D σ H' else rest a cls D σ H'
def tSuite (tb : TS) : Addr → Value → TS := fun a cls D σ H => tb D σ (upd H a (excO a cls))
def tSuiteAs (i : Nat) (tb : TS) : Addr → Value → TS := fun a cls D σ H =>
  tb { nx := fun σ' H' => D.nx (σ'.set i none) H', rt := D.rt, bk := fun σ' H' => D.bk (σ'.set i none) H', ct := fun σ' H' => D.ct (σ'.set i none) H' } (σ.set i (some (.ref a))) (upd H a (excO a cls))
section
variable {X : Cx} {t : Expr} {b₀ : Stmt} {body : List Stmt} {pos : Pos} {rest : List ExceptHandler} {cls0 : Value} {tm : TT} {tb : TS} {tr : Addr → Value → TS}
theorem ph_nil : PH X [] fun _ _ _ _ _ => False := fun _ _ _ _ _ _ _ _ _ h => h.elim
theorem ph_cons (hx : X.ex = []) (hm : ∀ a, PM (X.suite a) t cls0 tm) (hb : ∀ a, PSs (X.suite a) (b₀ :: body) tb) (hr : PH X rest tr) : PH X (.ExceptHandler (some t) none (b₀ :: body) pos :: rest) (tClause cls0 tm (tSuite tb) tr) := by
  intro pins s σ H D a cls I fl ⟨hcl, h⟩
  subst hcl
  refine wpAny_handleBy_cons (codeAny_handlers_test ?_) (by intro q; cases q)
  obtain ⟨oa, T, oT, J, hc, back⟩ := I.pinX fl
  have h1 := hm a _ s σ H a oa _ (J.suite a) (by simp) hc h
  refine wpAny_mono h1 (fun c s1 h2 => wpAny_mono h2 (fun b s2 ⟨H2, J2, q⟩ => ?_) fun _ _ z => z.elim) fun _ _ z => z.elim
  have J3 := J2.unsuite I.ok
  cases b with
  | true =>
    refine codeAny_handlers_suite (seen2 hx J3.unpin (back J3) fun h5 I5 F5 => ?_)
    exact wpAny_mono (hb a pins _ σ _ D ((I5.track F5).suite a) q) (fun f s3 hf => hf.unsuite I.ok) fun _ _ z => z.elim
  | false => exact hr pins s2 σ H2 D a cls J3.unpin (back J3) q
theorem ph_cons_as {i : Nat} {n : Str} (hx : X.ex = []) (hN : X.N.Nodup) (hm : ∀ a, PM (X.suite a) t cls0 tm) (hb : ∀ a, PSs (X.suite a) (b₀ :: body) tb) (hr : PH X rest tr) (hi : X.N[i]? = some n := by rfl) (hl : X.env.scope.names.lookup n = some .local := by rfl) :
    PH X (.ExceptHandler (some t) (some n) (b₀ :: body) pos :: rest) (tClause cls0 tm (tSuiteAs i tb) tr) := by
  intro pins s σ H D a cls I fl ⟨hcl, h⟩
  subst hcl
  refine wpAny_handleBy_cons (codeAny_handlers_test ?_) (by intro q; cases q)
  obtain ⟨oa, T, oT, J, hc, back⟩ := I.pinX fl
  have h1 := hm a _ s σ H a oa _ (J.suite a) (by simp) hc h
  refine wpAny_mono h1 (fun c s1 h2 => wpAny_mono h2 (fun b s2 ⟨H2, J2, q⟩ => ?_) fun _ _ z => z.elim) fun _ _ z => z.elim
  have J3 := J2.unsuite I.ok
  cases b with
  | true =>
    refine codeAny_handlers_suite_as (seen2 hx J3.unpin (back J3) fun h5 I5 F5 => ?_)
    refine store_ok (v := .ref a) (I5.track F5) hN hi (.inl hl) rfl (fun s6 I6 => ?_) (.inr hl)
    refine wpAny_mono (hb a pins s6 _ _ _ (I6.suite a) q) (fun f s7 hf => ?_) fun _ _ z => z.elim
    have hf := hf.unsuite I.ok
    cases f with
    | next => obtain ⟨σ', H', I7, q7⟩ := hf; exact name_goes I7 hN hi hl fun s8 I8 => ⟨_, H', I8, q7⟩
    | brk => obtain ⟨σ', H', I7, q7⟩ := hf; exact name_goes I7 hN hi hl fun s8 I8 => ⟨_, H', I8, q7⟩
    | cont => obtain ⟨σ', H', I7, q7⟩ := hf; exact name_goes I7 hN hi hl fun s8 I8 => ⟨_, H', I8, q7⟩
    | ret u => obtain ⟨v, σ', H', I7, r, q7⟩ := hf; exact name_goes I7 hN hi hl fun s8 I8 => ⟨v, _, H', I8, r, q7⟩
  | false => exact hr pins s2 σ H2 D a cls J3.unpin (back J3) q
end

/-! ### what is tried: one call that may raise; ifs around it -/
def PXe (X : Cx) (e : Expr) (t : XK → TE) : Prop := ∀ (pins : List (Addr × Obj)) (s : Shared) (σ : St) (H : Hp) (Q : VK) (E : XK), Inv X pins σ H s → t E σ H Q → wpAny (model X.prog X.w) X.A (eval e X.env) (EP X pins σ Q) (XE X pins σ E) s
def PXs (X : Cx) (st : List Stmt) (t : XK → TS) : Prop := ∀ (pins : List (Addr × Obj)) (s : Shared) (σ : St) (H : Hp) (D : Ends) (E : XK), Inv X pins σ H s → t E D σ H → wpAny (model X.prog X.w) X.A (execs st X.env) (SP X pins D) (XE X pins σ E) s
section
variable {X : Cx} {e : Expr} {es : List Expr} {pos p : Pos} {t : TA}
theorem pxe_call {k : Nat} {x : Str} {ps : List Str} {sp : Sp} (hx : X.ex = []) (h : HasX X.prog X.w X.K X.mg X.base k x ps sp) (hr : Room k X.A) (ha : PA X.nox (e :: es) t) (hg : Gl X x := by rfl)
    (hdb : (x == ("__debug__" : Str)) = false := by decide) (he : starEach (e :: es) X.env = (false, eval e X.env) :: starEach es X.env := by rfl) (hpl : (backTo pos (starEach es X.env)).any (·.1) = false := by rfl) :
    PXe X (.Call (.Name x p) (e :: es) [] pos) fun E => tCall sp [] E t := by
  intro pins s σ H Q E I hw
  obtain ⟨f, fd, F, hb, hk, hm⟩ := h
  refine wpAny_Call_Name_kw (ld_glob I hg hm ?_ hdb)
  refine PySem.W.callWith_K (h₀ := X.base) I.ok.mod.kin hk (wpAny_mono (ha pos pins s σ H _ (I.wish _) hw) (fun us s1 ⟨vs, H1, I1, r, q⟩ => ⟨I1.kIn, ?_⟩) fun _ _ z => z.elim) he hpl
  have J := I1.unwish
  have q : sp vs H1 Q E := by have z : sp (vs ++ []) H1 Q E := q; rwa [List.append_nil] at z
  have hl : us.length = ps.length := by rw [← r.length]; exact F.len _ _ _ _ q
  refine wpAny_call (codeAny_mono (F.run X.A X.stack s1 H1 ⟨us, []⟩ us vs Q E hr J.env0 (.of_eq (hb us hl)) r q) fun r s' hq => ?_)
  cases r with
  | error e => exact J.afterXE hx hq
  | ok fl =>
    cases fl with
    | ret u => exact J.after hq
    | next => exact False.elim hq
    | brk => exact False.elim hq
    | cont => exact False.elim hq
theorem pxs_expr {te : XK → TE} (he : PXe X e te) (hs : swapsWith e none pos.line X.env = pure false := by rfl) : PXs X [.Expr e pos] fun E => tDrop (te E) := by
  intro pins s σ H D E I h
  refine wpAny_execs_cons (wpAny_Expr_any (thn (he pins s σ H _ E I h) fun v s1 ⟨x, H1, I1, r1, q1⟩ => wpAny_execs_nil ⟨σ, H1, I1, q1⟩) I.quiet hs)
/-- try: .. except ..: (no else, no finally): the suites run on -/
def tTry (tb : XK → TS) (th : Addr → Value → TS) : TS := fun D σ H => tb (fun cls a H' => ∃ a', a = some a' ∧ th a' cls D σ H') D σ H
theorem ps_try {body : List Stmt} {h₀ : ExceptHandler} {hs : List ExceptHandler} {tb : XK → TS} {th : Addr → Value → TS} (hx : X.ex = []) (hst : X.stack = X.env :: X.outer) (hf : X.env.frame = some X.env.locals) (hb : PXs X body tb) (hh : PH X (h₀ :: hs) th) :
    PS X (.Try body (h₀ :: hs) [] [] pos) (tTry tb th) := by
  intro pins s σ H D I h
  refine wpAny_Try_except (wpAny_mono (hb pins s σ H D _ I h) (fun f s1 q => ?_) fun e s1 q => ?_)
  · cases f with
    | next => exact wpAny_execs_nil q
    | ret v => exact q
    | brk => exact q
    | cont => exact q
  · obtain ⟨a, cls, H', rfl, I', fl, a', ha, q⟩ := q
    cases ha
    exact seen hx hst hf I' fl fun h5 I5 F5 => wpAny_mono (hh pins _ σ H' D a cls I5 F5 q) (fun _ _ z => z) fun _ _ z => z.elim
end
end L2
namespace L2
open PySem PySem.Spec PyProof.Rows

/-- an own exception class as it lies in the heap -/
def OwnAt (h : Heap) (C : Addr) (bm : List Value) : Prop := ∃ N nm q bs hdct sn sub ab col dd k0 k1 k2 k3 k5 newId, h.get? C = some (excClassObj nm q C N bs bm hdct sn sub ab col dd k0 k1 k2 k3 k5 newId) ∧ bm.contains (.type "BaseException") = true
theorem OX.at {K : PySem.W.Frag} {mg : Str → Option Value} {x : Str} {C : Addr} {bm : List Value} {h : Heap} (O : OX K mg x C bm) (X : K.In h) : OwnAt h C bm := by
  obtain ⟨N, nm, q, bs, hdct, sn, sub, ab, col, dd, k0, k1, k2, k3, k5, lk, _, _⟩ := O.obj
  exact ⟨N, nm, q, bs, hdct, sn, sub, ab, col, dd, k0, k1, k2, k3, k5, _, X _ _ lk, (PySem.W.tail_of_in X O.tail).hasType rfl⟩

section
variable {M : Model} {A : Around} {E : Value → Shared → Prop} {h : Heap} {g : Array GenState} {d : Drawn} {t : Nat} {os : OsState}
theorem isExcClass_own {C : Addr} {bm : List Value} {Q : Bool → Shared → Prop} (O : OwnAt h C bm) (hq : Q true ⟨h, g, d, t, os⟩) : wpAny M A (isExcClass (.ref C)) Q E ⟨h, g, d, t, os⟩ := by
  obtain ⟨N, nm, q, bs, hdct, sn, sub, ab, col, dd, k0, k1, k2, k3, k5, newId, hC, hb⟩ := O
  have hcB : (Value.ref C :: bm).contains (.type "BaseException") = true := by rw [List.contains_cons, hb, Bool.or_true]
  have f := tc_notTuple
  unfold isExcClass
  repeat (first | with_reducible refine wpAny_loadPart_at hC ?_ | (with_reducible refine wpAny_isSubtype_exc hC ?_; rw [hcB]) | wp_step)
  exact hq
theorem isSubtype_own {C : Addr} {bm : List Value} {c : Value} {Q : Bool → Shared → Prop} (O : OwnAt h C bm) (hq : Q ((Value.ref C :: bm).contains c) ⟨h, g, d, t, os⟩) : wpAny M A (isSubtype (.ref C) c) Q E ⟨h, g, d, t, os⟩ := by
  obtain ⟨N, nm, q, bs, hdct, sn, sub, ab, col, dd, k0, k1, k2, k3, k5, newId, hC, hb⟩ := O
  exact wpAny_isSubtype_exc hC hq
theorem forIn_all {s : Shared} {f : Value → PUnit → Sem (ForInStep PUnit)} {R : PUnit → Shared → Prop} : ∀ {cs : List Value}, (∀ c ∈ cs, ∀ R' : ForInStep PUnit → Shared → Prop, R' (.yield ()) s → wpAny M A (f c ()) R' E s) → R () s → wpAny M A (forIn cs PUnit.unit f) R E s
  | [], _, hr => by rw [List.forIn_nil]; exact wpAny_pure hr
  | c :: cs, hf, hr => by
    rw [List.forIn_cons]
    exact wpAny_bind (hf c (.head _) _ (forIn_all (fun c' hc => hf c' (.tail _ hc)) hr))
theorem forIn_any {s : Shared} {p : Value → Bool} {f : Value → (Option Bool × Unit) → Sem (ForInStep (Option Bool × Unit))} {R : (Option Bool × Unit) → Shared → Prop} : ∀ {cs : List Value},
    (∀ c ∈ cs, ∀ R' : ForInStep (Option Bool × Unit) → Shared → Prop, R' (if p c = true then .done (some true, ()) else .yield (none, ())) s → wpAny M A (f c (none, ())) R' E s) → R (if cs.any p = true then (some true, ()) else (none, ())) s → wpAny M A (forIn cs (none, ()) f) R E s
  | [], _, hr => by rw [List.forIn_nil]; exact wpAny_pure hr
  | c :: cs, hf, hr => by
    rw [List.forIn_cons]
    refine wpAny_bind (hf c (.head _) _ ?_)
    rw [List.any_cons] at hr
    cases hp : p c with
    | true =>
      rw [hp] at hr
      exact wpAny_pure hr
    | false =>
      rw [hp, Bool.false_or] at hr
      exact forIn_any (fun c' hc => hf c' (.tail _ hc)) hr
theorem excMatches_tup {e tup C : Addr} {oe : Obj} {bm : List Value} {cs : List Value} {Q : Bool → Shared → Prop} (ht : IsTup h tup cs.toArray) (O : OwnAt h C bm) (he : h.get? e = some oe) (hcls : oe.cls = .ref C) (hcs : ∀ c ∈ cs, ∃ C' bm', c = .ref C' ∧ OwnAt h C' bm')
    (hq : Q (cs.any fun c => (Value.ref C :: bm).contains c) ⟨h, g, d, t, os⟩) : wpAny M A (excMatches (.ref e) (.ref tup)) Q E ⟨h, g, d, t, os⟩ := by
  obtain ⟨o, ho, hc, n, hd⟩ := ht
  unfold excMatches
  refine wpAny_bind (wpAny_isInstance ⟨o, ho, hc⟩ isSubtype_tuple_tuple ?_)
  dsimp only
  rw [if_pos rfl]
  refine wpAny_bind (wpAny_seqItems ho hd ?_)
  dsimp only [Option.getD_some, Option.getD]
  refine wpAny_bind (wpAny_pure (wpAny_bind (forIn_all (fun c hc' R' hR => ?_) ?_)))
  · obtain ⟨C', bm', rfl, O'⟩ := hcs c hc'
    exact wpAny_bind (isExcClass_own O' (wpAny_pure hR))
  · refine wpAny_bind ?_
    have ty : wpAny M A (typeOf (.ref e)) (fun v s' => v = .ref C ∧ s' = ⟨h, g, d, t, os⟩) E ⟨h, g, d, t, os⟩ := by
      repeat (first | (with_reducible refine wpAny_loadPart_at he ?_; rw [hcls]) | wp_step)
      exact ⟨rfl, rfl⟩
    refine wpAny_mono ty (fun v s' hv => ?_) fun _ _ z => z
    obtain ⟨rfl, rfl⟩ := hv
    refine wpAny_bind (forIn_any (p := fun c => (Value.ref C :: bm).contains c) (fun c hc' R' hR => ?_) ?_)
    · refine wpAny_bind (isSubtype_own O ?_)
      cases hb : (Value.ref C :: bm).contains c with
      | true => rw [hb] at hR; exact wpAny_pure hR
      | false => rw [hb] at hR; exact wpAny_pure hR
    · cases hb : cs.any fun c => (Value.ref C :: bm).contains c with
      | true => rw [hb] at hq; exact wpAny_pure hq
      | false => rw [hb] at hq; exact wpAny_pure hq
end

theorem vals_refs : ∀ {cs : List Addr} {its : List Value}, Vals (cs.map V.ref) its → its = cs.map Value.ref
  | [], _, .nil => rfl
  | c :: cs, _, .cons r t => by rw [List.map_cons, ← vals_refs t, show _ = Value.ref c from r]
/-- the test of an except clause: a tuple of own classes -/
theorem pm_tup {X : Cx} {x : Str} {C : Addr} {bm : List Value} {e : Expr} {te : TE} {cs : List Addr} (O : OX X.K X.mg x C bm) (hO : ∀ c ∈ cs, ∃ x' bm', OX X.K X.mg x' c bm') (he : PE X.nox e te) :
    PM X e (.ref C) fun σ H Q => te σ H fun v H' => ∃ p, v = .ref p ∧ H' p = some (.tup (cs.map V.ref)) ∧ Q ((cs.map Value.ref).any fun c => (Value.ref C :: bm).contains c) H' := by
  intro pins s σ H a oa Q I hp hc h
  refine wpAny_mono (he pins s σ H _ (I.wish _) h) (fun c s1 ⟨v, H1, I1, r, q⟩ => ?_) fun _ _ z => z
  obtain ⟨p, rfl, hH, hq⟩ := q
  obtain rfl : c = Value.ref p := r
  have J := I1.unwish
  obtain ⟨_, its, hv, ht⟩ := (show ObjOk X.prog X.w H1 s1.heap p (.tup (cs.map V.ref)) from J.hok p _ hH)
  have hits : its = cs.map Value.ref := vals_refs hv
  subst hits
  obtain ⟨hp', g, d, t, os⟩ := s1
  refine excMatches_tup ht (O.at J.kIn) (J.pin _ (List.mem_append_right _ hp)).1 hc (fun c hc' => ?_) ⟨H1, J, hq⟩
  obtain ⟨c', hc2, rfl⟩ := List.mem_map.mp hc'
  obtain ⟨x', bm', O'⟩ := hO c' hc2
  exact ⟨c', bm', rfl, O'.at J.kIn⟩
end L2
namespace L2
open PySem PySem.Spec PySem.Calls PyProof.Rows PySem.W

/-! ### isinstance of an own exception: where it holds -/
theorem exc_ans {K : Frag} {e C : Addr} {c : Value} (ty : ∀ (M : Model) (h : Heap), K.In h → Looks M h (typeOf c) (.type "type")) (it : ∀ (M : Model) (h : Heap), K.In h → Looks M h (isType c) true)
    (sub : ∀ (M : Model) (h : Heap), K.In h → Looks M h (isSubtype (.ref C) c) true) : Answers (fun s => K.In s.heap ∧ ∃ o, s.heap.get? e = some o ∧ o.cls = .ref C) (.ref e) c true := by
  intro dep tk prog w A R s hs
  obtain ⟨h0, g, d, tt, os⟩ := s
  obtain ⟨⟨X, o, ho, hcl⟩, hq⟩ := hs
  have LT : Looks (model prog w) h0 (typeOf (.ref e)) (.ref C) := hcl ▸ (Looks.ld ho).andThen .now
  unfold Builtin.«isinstance.nested»
  refine wpAny_bind (LT.at ?_)
  by_cases q : (Value.ref C == c) = true
  · rw [if_pos q]
    first
      | ((repeat lk); exact hq tt)
      | exact wpAny_bind (wpAny_rule (hq tt))
      | exact wpAny_bind (wpAny_rule (wpAny_pure (hq tt)))
  · rw [if_neg q]
    have LI : Looks (model prog w) h0 (isInstance (.ref e) c) true := LT.andThen (sub _ _ X)
    refine wpAny_bind ((ty _ _ X).at ?_)
    rw [if_pos (by decide)]
    k_delta "plainIsInstance"
    refine wpAny_bind (wpAny_bind ((it _ _ X).at ?_))
    simp only [Bool.not_true, Bool.false_eq_true, if_false]
    refine wpAny_bind (LI.at ?_)
    first
      | exact wpAny_pure (wpAny_pure (hq tt))
      | (simp only [if_true]; first | exact wpAny_pure (wpAny_pure (hq tt)) | exact wpAny_pure (hq tt) | exact wpAny_bind (wpAny_pure (wpAny_pure (hq tt))))
theorem exc_isi {K : Frag} {e C : Addr} {c : Value} {prog : Program} {w : World} {A : Around} {E : Value → Shared → Prop} {s : Shared} {Q : Value → Shared → Prop} (ty : ∀ (M : Model) (h : Heap), K.In h → Looks M h (typeOf c) (.type "type")) (it : ∀ (M : Model) (h : Heap), K.In h → Looks M h (isType c) true)
    (sub : ∀ (M : Model) (h : Heap), K.In h → Looks M h (isSubtype (.ref C) c) true) (X : K.In s.heap) (p : ∃ o, s.heap.get? e = some o ∧ o.cls = .ref C) (h : ∀ tk, Q (.bool true) { s with toks := tk }) :
    wpAny (model prog w) A (call (.builtin "isinstance") [.ref e, c]) Q E s :=
  call_isinstance (S := fun _ R s => (K.In s.heap ∧ ∃ o, s.heap.get? e = some o ∧ o.cls = .ref C) ∧ ∀ tk, R (.ok (.ret (.bool true))) { s with toks := tk })
    (fun prog w A R s hs => isinstance_outer (exc_ans ty it sub 0 _ prog w A R s hs) (fun z => nomatch z)) ⟨⟨X, p⟩, h⟩

theorem looks_ty_own {K : Frag} {mg : Str → Option Value} {x : Str} {C : Addr} {bm : List Value} (O : OX K mg x C bm) (M : Model) (h : Heap) (X : K.In h) : Looks M h (typeOf (.ref C)) (.type "type") ∧ Looks M h (isType (.ref C)) true := by
  obtain ⟨N, nm, q, bs, hdct, sn, sub, ab, col, dd, k0, k1, k2, k3, k5, lk, _, _⟩ := O.obj
  refine ⟨(Looks.ld (X _ _ lk)).andThen .now, fun A' Q' E' s' k q => ?_⟩
  unfold isType loadHead
  exact wpAny_bind (wpAny_loadPart (k _ _ (X _ _ lk)) (wpAny_pure q))
theorem looks_sub_own {K : Frag} {mg : Str → Option Value} {x : Str} {C : Addr} {bm : List Value} {c : Value} {b : Bool} (O : OX K mg x C bm) (hb : (Value.ref C :: bm).contains c = b) (M : Model) (h : Heap) (X : K.In h) : Looks M h (isSubtype (.ref C) c) b :=
  fun A' Q' E' s' k q => by
    obtain ⟨h', g, d, t, os⟩ := s'
    exact isSubtype_own (O.at (X.keeps k)) (by rw [hb]; exact q)
/-- isinstance(e, C'): e an exception of the class at C -/
def rIsX (C : Addr) (c : V) : List V → Hp → VK → Prop := fun xs H Q => ∃ a, xs = [.ref a, c] ∧ H a = some (excO a (.ref C)) ∧ Q (.bl true) H
theorem call_isX {X : Cx} {x x' : Str} {C C' : Addr} {bm bm' : List Value} (O : OX X.K X.mg x C bm) (O' : OX X.K X.mg x' C' bm') (hb : (Value.ref C :: bm).contains (.ref C') = true) : CallR X (.builtin "isinstance") (rIsX C (.ref C')) := by
  intro pins s σ H xs us Q I r h
  obtain ⟨a, rfl, ha, q⟩ := h
  obtain ⟨u, c, rfl, r1, r2⟩ := Vals.two r
  obtain rfl : c = Value.ref C' := r2
  obtain rfl : u = Value.ref a := r1
  have ho := (show ObjOk X.prog X.w H s.heap a (excO a (.ref C)) from I.hok a _ ha)
  exact exc_isi (K := X.K) (fun M h X => (looks_ty_own O' M h X).1) (fun M h X => (looks_ty_own O' M h X).2) (looks_sub_own O hb) I.kIn ho.1 fun tk => ⟨.bl true, H, I.tok tk, rfl, q⟩
theorem call_isXT {X : Cx} {x : Str} {C : Addr} {bm : List Value} {T : String} (O : OX X.K X.mg x C bm) (hb : (Value.ref C :: bm).contains (.type T) = true) (hm : kitMeta T = true) : CallR X (.builtin "isinstance") (rIsX C (.ty T)) := by
  intro pins s σ H xs us Q I r h
  obtain ⟨a, rfl, ha, q⟩ := h
  obtain ⟨u, c, rfl, r1, r2⟩ := Vals.two r
  obtain rfl : c = Value.type T := r2
  obtain rfl : u = Value.ref a := r1
  have ho := (show ObjOk X.prog X.w H s.heap a (excO a (.ref C)) from I.hok a _ ha)
  exact exc_isi (K := X.K) (fun M h _ => Looks.of_pure (kitMeta_of hm)) (fun M h _ => Looks.of_pure rfl) (looks_sub_own O hb) I.kIn ho.1 fun tk => ⟨.bl true, H, I.tok tk, rfl, q⟩
end L2
namespace SM
/-! shifts of two wakings, and the next turn together -/
theorem modB3 (x : Int) {m : Int} (h : 1 ≤ m) : 0 ≤ x % m ∧ x % m < m := ⟨Int.emod_nonneg _ (by omega), Int.emod_lt_of_pos _ (by omega)⟩
theorem mod_dvd (x m : Int) : m ∣ x - x % m := ⟨x / m, by have := Int.mul_ediv_add_emod x m; omega⟩
theorem mod_congr {x y m : Int} (h : m ∣ x - y) : x % m = y % m := Int.emod_emod_of_dvd_sub h
where
  Int.emod_emod_of_dvd_sub {x y m : Int} (h : m ∣ x - y) : x % m = y % m := by
    obtain ⟨k, hk⟩ := h
    have : x = y + m * k := by omega
    rw [this, Int.add_mul_emod_self_left]
theorem sh2_pos {u v : T3} (hu : 1 ≤ u.1) : 1 ≤ gcdI u.1 v.1 := by have := gcdI_pos (a := u.1) (b := v.1) (by omega); omega
/-- the least one from t on -/
def NextOf (p : Int → Prop) (t : Int) : Option Int → Prop
  | some x => t ≤ x ∧ p x ∧ ∀ y, t ≤ y → y < x → ¬ p y
  | none => ∀ y, t ≤ y → ¬ p y
theorem NextOf.uniq {p q : Int → Prop} {t : Int} (e : ∀ k, t ≤ k → (p k ↔ q k)) {r s : Option Int} (h : NextOf p t r) (g : NextOf q t s) : r = s := by
  cases r with
  | none => cases s with
    | none => rfl
    | some j => exact absurd ((e j g.1).mpr g.2.1) (h j g.1)
  | some i => cases s with
    | none => exact absurd ((e i h.1).mp h.2.1) (g i h.1)
    | some j =>
      have h1 := h.2.2 j g.1
      have h2 := g.2.2 i h.1
      have h3 := (e j g.1).mpr g.2.1
      have h4 := (e i h.1).mp h.2.1
      have : i = j := by
        rcases Int.lt_trichotomy i j with c | c | c
        · exact absurd h4 (h2 c)
        · exact c
        · exact absurd h3 (h1 c)
      rw [this]
/-- both awake -/
def awP (u : T3) (t : Int) : Prop := (t - u.2.1) % u.1 < u.2.2
def TogP (ws vs : List T3) (d t : Int) : Prop := (∃ u ∈ ws, awP u t) ∧ ∃ v ∈ vs, awP v (t - d)
end SM
namespace L2
open PySem PySem.Spec PyProof.Rows SM
section
variable {X : Cx} {pos : Pos}
/-! ### (a, b, ..) = a list of that length -/
end
end L2
namespace L2
open PySem PySem.Spec PyProof.Rows SM
section
variable {X : Cx}
end
/-! ### in comprehensions: the world's part is said -/
section
variable {X : Cx} {K : PySem.W.Frag}
end
/-! ### two plans in a list, compared -/
section
variable {K : PySem.W.Frag} {H : Hp} {Q : VK} {a b a1 a2 b1 b2 : Addr} {xs1 xs2 ys1 ys2 : List V} {ws vs : List T3}
end
end L2
namespace L2
open PySem PySem.Spec PyProof.Rows SM
/-! ### ranges that go down -/
section
variable {X : Cx} {tg : Expr}
def iRngN (ta : TA) : TI := fun σ H R => ta σ H fun vs H1 => ∃ i j : Int, vs = [.int i, .int j, .int (-1)] ∧ R (Its i (-1) (i - j).toNat) H1
theorem iRngN_ap {ta : TA} {R : It → Hp → Prop} {σ : St} {H : Hp} : iRngN ta σ H R = ta σ H fun vs H1 => ∃ i j : Int, vs = [.int i, .int j, .int (-1)] ∧ R (Its i (-1) (i - j).toNat) H1 := rfl
end
end L2
namespace L2
open PySem PySem.Spec PySem.Calls PyProof.Rows PySem.W Builtin Builtin.ObjectAttr Builtin.Getset_descriptor

/-! ### isinstance of an own exception: any class, tuples of classes -/
/-- what is looked up at an own exception's class -/
structure OC (K : Frag) (C : Addr) : Prop where
  ga : findIn K (.ref C) "__getattribute__" = some (some (.builtin "BaseException.__getattribute__"))
  gt : findIn K (.ref C) "__getattr__" = some none
  cl : findIn K (.ref C) "__class__" = some (some (.builtin "object.__class__"))

section
variable {prog : Program} {w : World} {A : Around} {E : Value → Shared → Prop} {h : Heap} {g : Array GenState} {d : Drawn} {t : Nat} {os : OsState} {a C : Addr} {o : Obj} {bm : List Value} {K : Frag}
end
section
variable {K : Frag} {mg : Str → Option Value} {x x' : Str} {C C' : Addr} {bm bm' : List Value}
end
end L2
namespace L2
open PySem PySem.Spec PySem.Calls PyProof.Rows SM
/-! ### list.index(True) of truths -/
section
variable {X : Cx}
end
end L2
namespace SM
/-! rounds of two plans; the longest wait -/
/-- the same, of the places from lo on -/
def LWi (p : Int → Prop) (n lo : Int) (wait W T : Int) : Prop := NextOf p lo (some (lo + wait)) ∧ (lo = n → W = 0 ∧ T = 0) ∧ (lo < n → lo ≤ T ∧ T < n ∧ NextOf p T (some (T + W)) ∧ ∀ t, lo ≤ t → t < n → ∀ x, NextOf p t (some x) → x - t ≤ W ∧ (x - t = W → T ≤ t))
theorem NextOf.here {p : Int → Prop} {t : Int} (h : p t) : NextOf p t (some t) := ⟨Int.le_refl _, h, fun y y1 y2 => by omega⟩
theorem NextOf.ahead {p : Int → Prop} {t x : Int} (h : ¬ p (t - 1)) (n : NextOf p t (some x)) : NextOf p (t - 1) (some x) := by
  have n1 : t ≤ x := n.1
  refine ⟨by omega, n.2.1, fun y y1 y2 z => ?_⟩
  by_cases e : y = t - 1
  · exact h (e ▸ z)
  · exact n.2.2 y (by omega) y2 z
theorem NextOf.one {p : Int → Prop} {t x y : Int} (h : NextOf p t (some x)) (g : NextOf p t (some y)) : x = y := Option.some.inj (h.uniq (fun _ _ => Iff.rfl) g)
theorem LWi.step {p : Int → Prop} {n lo wait W T w' : Int} (h : LWi p n lo wait W T) (l1 : 1 ≤ lo) (l2 : lo ≤ n) (w1 : p (lo - 1) → w' = 0) (w2 : ¬ p (lo - 1) → w' = wait + 1) (wn : 0 ≤ wait) :
    (W ≤ w' → LWi p n (lo - 1) w' w' (lo - 1)) ∧ (¬ W ≤ w' → LWi p n (lo - 1) w' W T) := by
  have N : NextOf p (lo - 1) (some (lo - 1 + w')) := by
    by_cases c : p (lo - 1)
    · rw [w1 c, Int.add_zero]
      exact .here c
    · have := h.1.ahead c
      have e : lo - 1 + w' = lo + wait := by rw [w2 c]; omega
      rw [e]
      exact this
  have top : lo < n ∨ lo = n := by omega
  refine ⟨fun c => ⟨N, fun z => by omega, fun _ => ⟨by omega, by omega, N, fun t t1 t2 x hx => ?_⟩⟩, fun c => ⟨N, fun z => by omega, fun _ => ?_⟩⟩
  · by_cases e : t = lo - 1
    · subst e
      have := hx.one N
      exact ⟨by omega, fun _ => Int.le_refl _⟩
    · rcases top with z | z
      · have := (h.2.2 z).2.2.2 t (by omega) t2 x hx
        exact ⟨by omega, fun _ => by omega⟩
      · omega
  · rcases top with z | z
    · obtain ⟨a, b, cc, d⟩ := h.2.2 z
      refine ⟨by omega, b, cc, fun t t1 t2 x hx => ?_⟩
      by_cases e : t = lo - 1
      · subst e
        have := hx.one N
        exact ⟨by omega, fun _ => by omega⟩
      · exact d t (by omega) t2 x hx
    · have := (h.2.1 z).1
      have wp : 0 ≤ w' := by
        by_cases q : p (lo - 1)
        · rw [w1 q]; omega
        · rw [w2 q]; omega
      omega
end SM
namespace L2
open PySem PySem.Spec PySem.Calls PyProof.Rows SM
/-! ### reversed(range(n)) -/
section
variable {prog : Program} {w : World} {A : Around} {E : Value → Shared → Prop} {s : Shared}
end
section
variable {X : Cx} {tg : Expr}
def tRng (ta : TA) : TE := fun σ H Q => ta σ H fun vs H1 => ∃ j : Int, vs = [.int j] ∧ ∀ p, H1 p = none → Q (.ref p) (upd H1 p (.rng 0 j))
theorem tRng_ap {ta : TA} {σ : St} {H : Hp} {Q : VK} : tRng ta σ H Q = ta σ H fun vs H1 => ∃ j : Int, vs = [.int j] ∧ ∀ p, H1 p = none → Q (.ref p) (upd H1 p (.rng 0 j)) := rfl
def iRevR (ta : TE) : TI := fun σ H R => ta σ H fun x H1 => ∃ (a : Addr) (n : Int), x = .ref a ∧ H1 a = some (.rng 0 n) ∧ 0 ≤ n ∧ n < 2 ^ 62 ∧ R (Its (n - 1) (-1) n.toNat) H1
theorem iRevR_ap {ta : TE} {R : It → Hp → Prop} {σ : St} {H : Hp} : iRevR ta σ H R = ta σ H fun x H1 => ∃ (a : Addr) (n : Int), x = .ref a ∧ H1 a = some (.rng 0 n) ∧ 0 ≤ n ∧ n < 2 ^ 62 ∧ R (Its (n - 1) (-1) n.toNat) H1 := rfl
end
end L2
namespace SM
/-! meetings counted -/
def bothB (u v : T3) (d t : Int) : Bool := decide ((t - u.2.1) % u.1 < u.2.2 ∧ (t - d - v.2.1) % v.1 < v.2.2)
theorem awP_plus {u : T3} {x k : Int} : awP u (x + u.1 * k) ↔ awP u x := by
  unfold awP
  rw [mod_congr (x := x + u.1 * k - u.2.1) (y := x - u.2.1) ⟨k, by omega⟩]
theorem tog_ahead {u v : T3} {d x : Int} (hu : 1 ≤ u.1) (hv : 1 ≤ v.1) (h : TogP [u] [v] d x) (t : Int) : ∃ y, t ≤ y ∧ TogP [u] [v] d y := by
  obtain ⟨⟨u', mu, au⟩, v', mv, av⟩ := h
  have eu := List.mem_singleton.mp mu
  have ev := List.mem_singleton.mp mv
  subst eu ev
  have m := Int.mul_pos (show 0 < u'.1 by omega) (show 0 < v'.1 by omega)
  refine ⟨x + u'.1 * v'.1 * (t - x).natAbs, ?_, ⟨u', mu, ?_⟩, v', mv, ?_⟩
  · have : 1 * ((t - x).natAbs : Int) ≤ u'.1 * v'.1 * (t - x).natAbs := Int.mul_le_mul_of_nonneg_right (by omega) (by omega)
    omega
  · rw [Int.mul_assoc]
    exact awP_plus.mpr au
  · have : x + u'.1 * v'.1 * ((t - x).natAbs : Int) - d = x - d + v'.1 * (u'.1 * (t - x).natAbs) := by
      rw [← Int.mul_assoc, Int.mul_comm v'.1 u'.1]; omega
    rw [this]
    exact awP_plus.mpr av
theorem bothB_iff {u v : T3} {d t : Int} : bothB u v d t = true ↔ TogP [u] [v] d t := by
  unfold bothB TogP awP
  rw [decide_eq_true_iff]
  simp
/-- going on from meeting to meeting -/
def MGone (u v : T3) (d s : Int) (k : Nat) (found : Int) : Prop := ∃ i : Nat, found = s + i ∧ bothB u v d (s + (i : Int)) = true ∧ cnt (fun j => bothB u v d (s + j)) i = k
theorem MGone.start {u v : T3} {d s : Int} (h : TogP [u] [v] d s) : MGone u v d s 0 s := ⟨0, by simp, by simpa using bothB_iff.mpr h, rfl⟩
theorem MGone.step {u v : T3} {d s : Int} (hu : L2.Wk u) (hv : L2.Wk v) {k : Nat} {found : Int} (G : MGone u v d s k found) {r : Option Int} (h : NextOf (TogP [u] [v] d) (found + 1) r) : ∃ x, r = some x ∧ found + 1 ≤ x ∧ TogP [u] [v] d x ∧ MGone u v d s (k + 1) x := by
  obtain ⟨i, rfl, hi, hc⟩ := G
  cases r with
  | none =>
    obtain ⟨y, y1, y2⟩ := tog_ahead hu.1 hv.1 (bothB_iff.mp hi) (s + i + 1)
    exact absurd y2 (h y y1)
  | some x =>
    obtain ⟨h1, h2, h3⟩ := h
    refine ⟨x, rfl, h1, h2, (x - s).toNat, by omega, ?_, ?_⟩
    · have : s + ((x - s).toNat : Int) = x := by omega
      rw [this]
      exact bothB_iff.mpr h2
    · have hh := cnt_hit (h := fun j => bothB u v d (s + j)) (m := i) (n := (x - s).toNat) (by omega) (by
        have : s + ((x - s).toNat : Int) = x := by omega
        rw [this]
        exact bothB_iff.mpr h2) fun j j1 j2 => by
          cases e : bothB u v d (s + (j : Int)) with
          | false => rfl
          | true => exact absurd (bothB_iff.mp e) (h3 (s + j) (by omega) (by omega))
      rw [hh, hc]
end SM
namespace SM
/-! finding a paper for a part -/
def meetsB (u : T3) (s r : Int) : Bool := decide ((r - u.2.1) % gcdI s u.1 < u.2.2)
/-- every turn of a part has one of these awake -/
def Cov (us : List T3) (s r : Int) : Prop := ∀ x : Int, ∃ u ∈ us, awP u (r + s * x)
theorem emod_le_of {m g : Int} (m0 : 0 ≤ m) (g0 : 1 ≤ g) : m % g ≤ m := by
  by_cases c : m < g
  · rw [Int.emod_eq_of_lt m0 c]; exact Int.le_refl _
  · have := modB3 m g0
    omega
theorem meets_of {u : T3} {s r x : Int} (hu : L2.Wk u) (hs : 1 ≤ s) (h : awP u (r + s * x)) : meetsB u s r = true := by
  refine decide_eq_true ?_
  have g0 : 1 ≤ gcdI s u.1 := sh2_pos (u := (s, 0, 0)) (v := u) hs
  have m := modB3 (r + s * x - u.2.1) hu.1
  have d1 := Int.dvd_trans (gcdI_dvd_right s u.1) (mod_dvd (r + s * x - u.2.1) u.1)
  unfold awP at h
  generalize (r + s * x - u.2.1) % u.1 = k at *
  have e : (r - u.2.1) % gcdI s u.1 = k % gcdI s u.1 := mod_congr (by
    have d2 : gcdI s u.1 ∣ s * x := Int.dvd_trans (gcdI_dvd_left s u.1) ⟨x, rfl⟩
    have : r - u.2.1 - k = r + s * x - u.2.1 - k - s * x := by omega
    rw [this]
    exact Int.dvd_sub d1 d2)
  rw [e]
  have := emod_le_of m.1 g0
  omega
theorem Cov.met {us : List T3} {s r : Int} (hu : ∀ u ∈ us, L2.Wk u) (hs : 1 ≤ s) (h : Cov us s r) : Cov (us.filter fun u => meetsB u s r) s r := fun x => by
  obtain ⟨u, mu, a⟩ := h x
  exact ⟨u, List.mem_filter.mpr ⟨mu, meets_of (hu u mu) hs a⟩, a⟩
theorem Cov.parted {us : List T3} {s r : Int} (h : Cov us s r) (b c : Int) : Cov us (s * b) (r + s * c) := fun x => by
  have := h (c + b * x)
  rw [Int.mul_add, ← Int.mul_assoc, ← Int.add_assoc] at this
  exact this
theorem Cov.some {us : List T3} {s r : Int} (h : Cov us s r) : us ≠ [] := fun e => by
  obtain ⟨u, mu, _⟩ := h 0
  rw [e] at mu
  cases mu
end SM
namespace L2
open PySem PySem.Spec PySem.Calls PyProof.Rows SM
/-! ### list(range(n)) -/
section
variable {X : Cx}
end
end L2
namespace L2
open PySem PySem.Spec PyProof.Rows SM
/-! ### rows of hands -/
abbrev Hd := List T3 × Int
def Hds (H : Hp) (xs : List V) (hs : List Hd) : Prop := xs.length = hs.length ∧ ∀ (i : Nat) h, hs[i]? = some h → ∃ p a ys, xs[i]? = some (.ref p) ∧ H p = some (.tup [.ref a, .int h.2]) ∧ H a = some (.lst ys) ∧ Pl H ys h.1
theorem Hds.nil {H : Hp} : Hds H [] [] := ⟨rfl, fun i t e => by simp at e⟩
theorem Hds.same {H H' : Hp} {xs : List V} {hs : List Hd} (g : Same H H') (h : Hds H xs hs) : Hds H' xs hs := ⟨h.1, fun i t e => let ⟨p, a, ys, e1, e2, e3, e4⟩ := h.2 i t e; ⟨p, a, ys, e1, g _ _ e2, g _ _ e3, e4.same g⟩⟩
theorem Hds.at {H : Hp} {xs : List V} {hs : List Hd} (h : Hds H xs hs) {i : Nat} {x : V} (e : xs[i]? = some x) : ∃ p a ys t, hs[i]? = some t ∧ x = .ref p ∧ H p = some (.tup [.ref a, .int t.2]) ∧ H a = some (.lst ys) ∧ Pl H ys t.1 := by
  have hi := (List.getElem?_eq_some_iff.mp e).1
  rw [h.1] at hi
  obtain ⟨p, a, ys, e1, e2, e3, e4⟩ := h.2 i _ (List.getElem?_eq_getElem hi)
  rw [e] at e1
  cases e1
  exact ⟨p, a, ys, _, List.getElem?_eq_getElem hi, rfl, e2, e3, e4⟩
theorem Hds.snoc {H : Hp} {xs : List V} {hs : List Hd} {p a : Addr} {ys : List V} {t : Hd} (h : Hds H xs hs) (hp : H p = some (.tup [.ref a, .int t.2])) (ha : H a = some (.lst ys)) (hl : Pl H ys t.1) : Hds H (xs ++ [.ref p]) (hs ++ [t]) := by
  refine ⟨by simp [h.1], fun i u e => ?_⟩
  by_cases c : i < hs.length
  · rw [List.getElem?_append_left c] at e
    obtain ⟨p1, a1, ys1, e1, e2⟩ := h.2 i u e
    exact ⟨p1, a1, ys1, by rw [List.getElem?_append_left (by rw [h.1]; exact c)]; exact e1, e2⟩
  · rw [List.getElem?_append_right (by omega)] at e
    have : i - hs.length = 0 := by
      have := (List.getElem?_eq_some_iff.mp e).1
      simp at this
      omega
    rw [this] at e
    cases e
    refine ⟨p, a, ys, ?_, hp, ha, hl⟩
    rw [List.getElem?_append_right (by rw [h.1]; omega), h.1, this]
    rfl
theorem Hds.take {H : Hp} {xs : List V} {hs : List Hd} (h : Hds H xs hs) (n : Nat) : Hds H (xs.take n) (hs.take n) := by
  refine ⟨by simp [h.1], fun i t e => ?_⟩
  rw [List.getElem?_take] at e
  split at e
  · rename_i c
    obtain ⟨p, a, ys, e1, e2⟩ := h.2 _ t e
    exact ⟨p, a, ys, by rw [List.getElem?_take, if_pos c]; exact e1, e2⟩
  · cases e
theorem Hds.ix {H : Hp} {xs : List V} {hs : List Hd} (h : Hds H xs hs) {i : Int} (h0 : 0 ≤ i) (h1 : i < hs.length) : ∃ p a ys t, atI xs i = some (.ref p) ∧ hs[i.toNat]? = some t ∧ H p = some (.tup [.ref a, .int t.2]) ∧ H a = some (.lst ys) ∧ Pl H ys t.1 := by
  have hi : i.toNat < hs.length := by omega
  obtain ⟨p, a, ys, e1, e2, e3, e4⟩ := h.2 i.toNat _ (List.getElem?_eq_getElem hi)
  refine ⟨p, a, ys, _, ?_, List.getElem?_eq_getElem hi, e2, e3, e4⟩
  unfold atI ixN
  rw [if_pos h0, if_pos (by rw [h.1]; omega)]
  exact e1
/-! a heap without one of its places: what does not hang on the list that is being written -/
/-! hands compared -/
def dH (h : Hd) : PyData := .tuple [.list (h.1.map dW), .int h.2]
def dHs (hs : List Hd) : PyData := .list (hs.map dH)
theorem Hds.dds {K : PySem.W.Frag} {H : Hp} : ∀ {hs : List Hd} {xs : List V}, Hds H xs hs → DDs K H xs (hs.map dH)
  | [], [], _ => .nil
  | [], _ :: _, h => by have := h.1; simp at this
  | _ :: _, [], h => by have := h.1; simp at this
  | t :: ws, x :: xs, h => by
    obtain ⟨p, a, ys, e1, e2, e3, e4⟩ := h.2 0 t rfl
    cases e1
    refine .cons (.tup (SqT.of e2) (.cons (e4.dd (SqL.of e3)) (.cons (.int _) .nil))) (Hds.dds ⟨by have := h.1; simpa using this, fun i u e => ?_⟩)
    have := h.2 (i + 1) u (by simpa using e)
    simpa using this
theorem Hds.dd {K : PySem.W.Frag} {H : Hp} {a : Addr} {hs : List Hd} {xs : List V} (hq : SqL K H a xs) (h : Hds H xs hs) : DD K H (.ref a) (dHs hs) := .lst hq h.dds
section
variable {K : PySem.W.Frag} {H : Hp} {Q : VK} {a b : Addr} {xs ys : List V} {ws vs : List Hd}
end
/-! lists of turns, None among them, compared -/
section
variable {K : PySem.W.Frag} {H : Hp} {Q : VK} {a b : Addr} {ws vs : List (Option Int)}
end
end L2
namespace SM
open L2
end SM
namespace SM
open L2
/-! ### the way of a letter -/
def HAw (h : Hd) (t : Int) : Prop := ∃ u ∈ h.1, awP u (t - h.2)
def HTog (h g : Hd) (t : Int) : Prop := HAw h t ∧ HAw g t
structure Way (hs : List Hd) (t : Int) (w : List (Option Int)) : Prop where
  z : w[0]? = some (some t)
  st : ∀ k r, w[k + 1]? = some r → ∃ s h g, w[k]? = some (some s) ∧ hs[k]? = some h ∧ hs[k + 1]? = some g ∧ NextOf (HTog h g) s r
  en : w.length = hs.length ∨ (w.length ≤ hs.length ∧ w[w.length - 1]? = some none)
theorem Way.le {hs : List Hd} {t : Int} {w : List (Option Int)} (h : Way hs t w) : w.length ≤ hs.length := by
  rcases h.en with e | e
  · omega
  · exact e.1
theorem Way.pos {hs : List Hd} {t : Int} {w : List (Option Int)} (h : Way hs t w) : 1 ≤ w.length := (List.getElem?_eq_some_iff.mp h.z).1
theorem Way.next {hs : List Hd} {t : Int} {w : List (Option Int)} (h : Way hs t w) {k : Nat} {s : Int} (e : w[k]? = some (some s)) (hk : k + 1 < hs.length) : ∃ r a b, w[k + 1]? = some r ∧ hs[k]? = some a ∧ hs[k + 1]? = some b ∧ NextOf (HTog a b) s r := by
  have lk := (List.getElem?_eq_some_iff.mp e).1
  have l : k + 1 < w.length := by
    rcases h.en with z | ⟨_, z⟩
    · omega
    · by_cases c : k + 1 < w.length
      · exact c
      · rw [show w.length - 1 = k by omega, e] at z
        cases z
  obtain ⟨s', a, b, e1, e2, e3, e4⟩ := h.st k _ (List.getElem?_eq_getElem l)
  rw [e] at e1
  cases e1
  exact ⟨_, a, b, List.getElem?_eq_getElem l, e2, e3, e4⟩
theorem Way.uniq {hs : List Hd} {t : Int} {w v : List (Option Int)} (h : Way hs t w) (g : Way hs t v) : w = v := by
  refine List.ext_getElem? fun k => ?_
  induction k with
  | zero => rw [h.z, g.z]
  | succ k ih =>
    have up : ∀ {w v : List (Option Int)}, Way hs t w → Way hs t v → w[k]? = v[k]? → ∀ r, w[k + 1]? = some r → v[k + 1]? = some r := fun {w v} h g ih r e => by
      obtain ⟨s, a, b, e1, e2, e3, e4⟩ := h.st k r e
      obtain ⟨r', a', b', f1, f2, f3, f4⟩ := g.next (ih ▸ e1) (List.getElem?_eq_some_iff.mp e3).1
      rw [e2] at f2
      rw [e3] at f3
      cases f2
      cases f3
      rw [f1, NextOf.uniq (fun _ _ => Iff.rfl) e4 f4]
    cases e : w[k + 1]? with
    | some r => exact (up h g ih r e).symm
    | none =>
      cases e' : v[k + 1]? with
      | none => rfl
      | some r =>
        rw [up g h ih.symm r e'] at e
        cases e
end SM
namespace SM
open L2
/-! ### ways compared -/
/-- the way to a hand ahead of the last one -/
theorem Way.take {hs : List Hd} {t : Int} {w : List (Option Int)} (a : Way hs t w) (n : Nat) : Way (hs.take (n + 1)) t (w.take (n + 1)) := by
  refine ⟨?_, fun k r e => ?_, ?_⟩
  · rw [List.getElem?_take, if_pos (by omega)]
    exact a.z
  · rw [List.getElem?_take] at e
    split at e
    · rename_i c
      obtain ⟨s, h, g, e1, e2, e3, e4⟩ := a.st k r e
      exact ⟨s, h, g, by rw [List.getElem?_take, if_pos (by omega)]; exact e1, by rw [List.getElem?_take, if_pos (by omega)]; exact e2, by rw [List.getElem?_take, if_pos c]; exact e3, e4⟩
    · cases e
  · have le := a.le
    rw [List.length_take, List.length_take]
    rcases a.en with z | ⟨_, z⟩
    · exact .inl (by omega)
    · by_cases c : n + 1 ≤ w.length
      · exact .inl (by omega)
      · refine .inr ⟨by omega, ?_⟩
        rw [List.getElem?_take, if_pos (by have := a.pos; omega), show min (n + 1) w.length = w.length by omega]
        exact z
end SM
namespace SM
/-! ### primes -/
theorem IsPart.uniq {n d e : Int} (h : IsPart n d) (g : IsPart n e) : d = e := by
  by_cases c : d < e
  · exact absurd h.dvd (g.least d h.two c)
  · by_cases c2 : e < d
    · exact absurd g.dvd (h.least e g.two c2)
    · omega
theorem NoPart.up {n q : Int} (h : NoPart n q) (c : n % q ≠ 0) : NoPart n (q + 1) := fun d d2 dq e => by
  by_cases z : d = q
  · subst z
    exact c (Int.emod_eq_zero_of_dvd e)
  · exact h d d2 (by omega) e
theorem not_prime {n q : Int} (q2 : 2 ≤ q) (qq : q * q ≤ n) (c : n % q = 0) : ¬ IsPart n n := fun h => by
  have : q < n := by
    have := Int.mul_le_mul_of_nonneg_right q2 (show 0 ≤ q by omega)
    omega
  exact h.least q q2 this (Int.dvd_of_emod_eq_zero c)
/-- trial, for the kernel -/
def trial (n : Nat) : Nat → Nat → Bool
  | 0, _ => true
  | f + 1, d => if n % d = 0 then false else trial n f (d + 1)
theorem trial_ok {n : Nat} : ∀ {f d : Nat}, trial n f d = true → ∀ e, d ≤ e → e < d + f → n % e ≠ 0
  | 0, d, _, e, h1, h2 => by omega
  | f + 1, d, h, e, h1, h2 => by
    unfold trial at h
    split at h
    · cases h
    · rename_i c
      by_cases z : e = d
      · rw [z]; exact c
      · exact trial_ok h e (by omega) (by omega)
theorem prime_of_trial {n f : Nat} (h2 : 2 ≤ n) (hs : n < (2 + f) * (2 + f)) (h : trial n f 2 = true) : IsPart n n := by
  refine isPart_self (p := 2 + (f : Int)) (by omega) (fun d d2 dq e => ?_) (by omega) (by
    have z : ((n : Int)) < (((2 + f) * (2 + f) : Nat) : Int) := Int.ofNat_lt.mpr hs
    rw [Int.natCast_mul, Int.natCast_add] at z
    exact z)
  obtain ⟨k, rfl⟩ := Int.eq_ofNat_of_zero_le (show 0 ≤ d by omega)
  have := trial_ok h k (by omega) (by omega)
  exact this (by have := Int.emod_eq_zero_of_dvd e; omega)
theorem p6 : IsPart 1000003 1000003 := prime_of_trial (n := 1000003) (f := 1000) (by decide) (by decide) (by decide +kernel)
theorem p8 : IsPart 100000007 100000007 := prime_of_trial (n := 100000007) (f := 9999) (by decide) (by decide) (by decide +kernel)
end SM
set_option maxHeartbeats 4000000
open PySem L2 SM
local macro_rules | `(tactic| walk_at "wp") => `(tactic| try simp only [tSeq_ap, tIfS_ap, tAsg_ap, gName_ap, tRet_ap, tRetN_ap, tNext_ap, tBreak_ap, tCont_ap, tDrop_ap, tC_ap, tVar_0, tVar_s, tOp_ap, tUn_ap, rI0_ap, rI_ap, rU_ap, rEq_int, rNe_int, tTest_ap, tB_ap, ex_bl, ex_ref, ex_int, tAnd_ap, tOr_ap, tNot_ap, tAndV_ap, tOrV_ap, tNotV_ap, tIf_ap, tNil_ap, tCons_ap, tTup_ap, tLst_ap, tCall_ap, tCB_ap, tChain_ap, tPar_ap, ex_two, tAug_ap, ipI_ap, tSl_ap, tNoPart_ap, tPart_ap, tBM_ap, tBM0_ap, tTrue_ap, gSub_ap, gCons_ap, gNil_ap, tFor_ap, iRng1_ap, iRng2_ap, iRngA_ap, iRng3_ap, iRngN_ap, iRevR_ap, tRng_ap, iList_ap, iTup_ap, iRev_ap, iZip_ap, iEnum_ap, tListRev_ap, tMinD_ap, tMaxD_ap, tComp_ap, ite_and, L2.start, cxOf_K, cxComp_K, List.map_cons, List.map_nil, List.length_cons, List.length_nil, List.replicate, List.cons_append, List.nil_append, List.append_nil, List.set_cons_zero, List.set_cons_succ, decide_eq_true_eq, Bool.not_eq_true', decide_eq_false_iff_not, Bool.not_eq_eq_eq_not, Bool.not_true, Bool.not_false, sizeLine_eq, oV, reduceCtorEq, isI_ii, isI_ib, isI_ni, isI_bb, Nat.reduceAdd, Nat.reduceSub, Nat.reduceLeDiff, Nat.zero_add, true_and, and_true, forall_const, Bool.false_eq_true, if_true, if_false, false_implies, true_implies, not_false_eq_true, not_true_eq_false, implies_true])
seal L2.PSs L2.PS L2.PE L2.PT L2.PA L2.PI L2.PG L2.PTs L2.PW L2.OpR
namespace SMk51
open PySem L2 SM
def top (i : Nat) : Stmt := PySem.Challenge.pw_shiftmeet_k51_pair_plans.main.body.getD i (.Pass ⟨0, 0, 0, 0⟩)
abbrev s_least_part : Stmt := top 10
abbrev s_pair_plan : Stmt := top 12
abbrev s_is_prime : Stmt := top 13
abbrev s_law_cell_at : Stmt := top 15
abbrev s_law_sum : Stmt := top 16
abbrev s_law_is_prime : Stmt := top 17
abbrev s_law_prime : Stmt := top 18
abbrev s_law_from : Stmt := top 19
abbrev s_law_unlike : Stmt := top 20
abbrev s_law_refused : Stmt := top 21
abbrev s_law_faulty : Stmt := top 22
abbrev s_law_same : Stmt := top 23
abbrev s_law : Stmt := top 24
theorem sc_least_part : FnScope ["number", "small", "part"] ["number"] (defScope s_least_part) := ⟨rfl, rfl, rfl, by decide +kernel, rfl, by decide +kernel, by decide +kernel⟩
theorem sc_pair_plan : FnScope ["one", "other"] ["one", "other"] (defScope s_pair_plan) := ⟨rfl, rfl, rfl, by decide +kernel, rfl, by decide +kernel, by decide +kernel⟩
theorem sc_is_prime : FnScope ["number"] ["number"] (defScope s_is_prime) := ⟨rfl, rfl, rfl, by decide +kernel, rfl, by decide +kernel, by decide +kernel⟩
theorem sc_law_cell_at : FnScope ["script", "k"] ["script", "k"] (defScope s_law_cell_at) := ⟨rfl, rfl, rfl, by decide +kernel, rfl, by decide +kernel, by decide +kernel⟩
theorem sc_law_sum : FnScope ["cells", "start", "step", "number", "k"] ["cells", "start", "step"] (defScope s_law_sum) := ⟨rfl, rfl, rfl, by decide +kernel, rfl, by decide +kernel, by decide +kernel⟩
theorem sc_law_is_prime : FnScope ["number", "part"] ["number"] (defScope s_law_is_prime) := ⟨rfl, rfl, rfl, by decide +kernel, rfl, by decide +kernel, by decide +kernel⟩
theorem sc_law_prime : FnScope ["number"] ["number"] (defScope s_law_prime) := ⟨rfl, rfl, rfl, by decide +kernel, rfl, by decide +kernel, by decide +kernel⟩
theorem sc_law_from : FnScope ["number", "kind"] ["number", "kind"] (defScope s_law_from) := ⟨rfl, rfl, rfl, by decide +kernel, rfl, by decide +kernel, by decide +kernel⟩
theorem sc_law_unlike : FnScope ["prime"] ["prime"] (defScope s_law_unlike) := ⟨rfl, rfl, rfl, by decide +kernel, rfl, by decide +kernel, by decide +kernel⟩
theorem sc_law_refused : FnScope ["one", "other", "good", "e"] ["one", "other"] (defScope s_law_refused) := ⟨rfl, rfl, rfl, by decide +kernel, rfl, by decide +kernel, by decide +kernel⟩
theorem sc_law_faulty : FnScope ["number", "kind", "small"] ["number"] (defScope s_law_faulty) := ⟨rfl, rfl, rfl, by decide +kernel, rfl, by decide +kernel, by decide +kernel⟩
theorem sc_law_same : FnScope ["found", "one", "other", "waking", "number"] ["found", "one", "other"] (defScope s_law_same) := ⟨rfl, rfl, rfl, by decide +kernel, rfl, by decide +kernel, by decide +kernel⟩
theorem sc_law : FnScope ["script", "kind", "one", "other", "found", "wrong", "worse"] ["script"] (defScope s_law) := ⟨rfl, rfl, rfl, by decide +kernel, rfl, by decide +kernel, by decide +kernel⟩
section
variable {P : Program} {w : World} {K : PySem.W.Frag} {mg : Str → Option Value} {base : Heap}
def sp_least_part : Sp := fun vs H Q _ => ∃ n : Int, vs = [.int n] ∧ 2 ≤ n ∧ n < 2 ^ 60 ∧ ∀ d H', IsPart n d → Same H H' → Q (.int d) H'
theorem sq_small {q n : Int} (h0 : 0 ≤ q) (h : q * q ≤ n) (hn : n < 2 ^ 60) : q < 2 ^ 30 := by
  by_cases c : q < 2 ^ 30
  · exact c
  · exfalso
    have := Int.mul_le_mul (show (2 : Int) ^ 30 ≤ q by omega) (show (2 : Int) ^ 30 ≤ q by omega) (by decide) h0
    omega
theorem sq_ge {q : Int} (h0 : 1 ≤ q) : q ≤ q * q := by
  have := Int.mul_le_mul_of_nonneg_left h0 (show 0 ≤ q by omega)
  omega
theorem h_least_part (T : TF K mg "least_part" s_least_part) : Has P w K mg base 1 "least_part" ["number"] sp_least_part := by
  refine T.has sc_least_part (fun _ _ _ _ _ _ us hl => match us, hl with | [_], _ => rfl) (fun vs H Q E h => ?_) (fun f cdv A outer s H vs Q E hr h => ?_)
  · obtain ⟨a, rfl, _⟩ := h
    rfl
  obtain ⟨n, rfl, h2, h60, q⟩ := h
  refine ⟨_, (pss_cons (ps_for PassesOwn.never rfl (pi_tup (pe_tup (pa_cons pe_int (pa_cons pe_int pa_nil)))) (pg_name (i := 1) sc_least_part.nd rfl (Or.inl rfl)) (pss_one (ps_if (pt_cmpR op_eq (pe_op op_mod (pv 0) (pv 1)) pe_int (nomark _)) (pss_one (ps_ret (pv 1))) pss_nil))) (pss_cons (ps_set (i := 2) sc_least_part.nd rfl (Or.inl rfl) pe_int) (pss_cons (ps_while PassesOwn.never (pt_cmpR op_le (pe_op op_mulA (pv 2) (pv 2)) (pv 0) (nomark _)) (pss_cons (ps_if (pt_cmpR op_eq (pe_op op_mod (pv 0) (pv 2)) pe_int (nomark _)) (pss_one (ps_ret (pv 2))) pss_nil) (pss_cons (ps_if (pt_cmpR op_eq (pe_op op_mod (pv 0) (pe_op op_add (pv 2) pe_int)) pe_int (nomark _)) (pss_one (ps_ret (pe_op op_add (pv 2) pe_int))) pss_nil) (pss_one (ps_aug (i := 2) sc_least_part.nd rfl (Or.inl rfl) pe_int ip_add))))) (pss_one (ps_ret (pv 0)))))), ?_⟩
  walk_at "wp"
  intro p hp
  have g : Same H (upd H p (.tup [.int 2, .int 3])) := same_new hp _
  refine ⟨⟨_, SqT.of upd_same⟩, ?_⟩
  obtain ⟨W, hW⟩ : ∃ W : Nat → St → Hp → Prop, W = fun i σ H' => ∃ o, σ = [some (.int n), o, none] ∧ H' = upd H p (.tup [.int 2, .int 3]) ∧ (1 ≤ i → n % 2 ≠ 0) ∧ (2 ≤ i → n % 3 ≠ 0) := ⟨_, rfl⟩
  refine forW_tup (xs := [.int 2, .int 3]) W (by rw [hW]; exact ⟨none, rfl, rfl, by omega, by omega⟩) (fun i σ H' _ h => ?_) (fun i x σ H' hx h => ?_) (fun σ H' h => ?_)
  · rw [hW] at h
    obtain ⟨_, _, rfl, _⟩ := h
    exact SqT.of upd_same
  · rw [hW] at h
    obtain ⟨o, rfl, rfl, k2, k3⟩ := h
    match i, hx with
    | 0, hx =>
      cases hx
      walk_at "wp"
      refine ⟨by decide, fun c => q 2 _ ⟨by decide, Int.dvd_of_emod_eq_zero c, fun d d1 d2 => by omega⟩ g, fun c => ?_⟩
      rw [hW]
      exact ⟨_, rfl, rfl, fun _ => c, by omega⟩
    | 1, hx =>
      cases hx
      walk_at "wp"
      refine ⟨by decide, fun c => q 3 _ ⟨by decide, Int.dvd_of_emod_eq_zero c, fun d d1 d2 => ?_⟩ g, fun c => ?_⟩
      · have : d = 2 := by omega
        subst this
        exact not_dvd_of (k2 (by omega))
      · rw [hW]
        exact ⟨_, rfl, rfl, fun _ => k2 (by omega), fun _ => c⟩
    | i + 2, hx => simp at hx
  · rw [hW] at h
    obtain ⟨o, rfl, rfl, k2, k3⟩ := h
    have k2 := k2 (by decide)
    have k3 := k3 (by decide)
    walk_at "wp"
    obtain ⟨Z, hZ⟩ : ∃ Z : Nat → St → Hp → Prop, Z = fun m σ H' => ∃ (q : Int), σ = [some (.int n), o, some (.int q)] ∧ H' = upd H p (.tup [.int 2, .int 3]) ∧ NoPart n q ∧ q % 6 = 5 ∧ 5 ≤ q ∧ q < 2 ^ 31 ∧ m = (n + 6 - q).toNat := ⟨_, rfl⟩
    refine ⟨Z, ⟨(n + 6 - 5).toNat, by rw [hZ]; exact ⟨5, rfl, rfl, NoPart.five k2 k3, by decide, by decide, by decide, rfl⟩⟩, fun m σ H' h => ?_⟩
    rw [hZ] at h
    obtain ⟨t, rfl, rfl, np, t6, t5, t31, rfl⟩ := h
    walk_at "wp"
    refine ⟨mokS (by omega) (by omega), fun c => ?_, fun c => ?_⟩
    · have tl := sq_small (by omega) c h60
      have tg := sq_ge (show 1 ≤ t by omega)
      refine ⟨_, fun _ _ h => h, ?_⟩
      walk_at "wp"
      refine ⟨by omega, fun c1 => q t _ ⟨by omega, Int.dvd_of_emod_eq_zero c1, np⟩ g, fun c1 => ⟨by omega, fun c2 => q (t + 2) _ ⟨by omega, Int.dvd_of_emod_eq_zero c2, np.two_on k2 t6 c1⟩ g, fun c2 => ?_⟩⟩
      refine ⟨(n + 6 - (t + 6)).toNat, by omega, ?_⟩
      rw [hZ]
      exact ⟨t + 6, rfl, rfl, np.six k2 k3 t6 c1 c2, by omega, by omega, by omega, rfl⟩
    · exact q n _ (isPart_self h2 np (by omega) (by omega)) g

theorem modB (x : Int) {m : Int} (h : 0 < m) : 0 ≤ x % m ∧ x % m < m := ⟨Int.emod_nonneg _ (by omega), Int.emod_lt_of_pos _ h⟩
theorem getD_all {Pz : Int → Prop} {zs : List Int} {i : Nat} (h : ∀ z ∈ zs, Pz z) (hi : i < zs.length) : Pz (zs.getD i 0) := by
  rw [List.getD_eq_getElem?_getD, List.getElem?_eq_getElem hi]
  exact h _ (List.getElem_mem hi)
def sp_cell_at (K : PySem.W.Frag) : Sp := fun vs H Q _ => ∃ (a : Addr) (ns : List Int) (k : Int), vs = [.ref a, .int k] ∧ SqL K H a (ns.map V.int) ∧ 0 ≤ k ∧ Q (.int (ns.getD k.toNat 0)) H
theorem h_law_cell_at (T : TF K mg "_law_cell_at" s_law_cell_at) (m_len : mg "len" = none) : Has P w K mg base 1 "_law_cell_at" ["script", "k"] (sp_cell_at K) := by
  refine T.has sc_law_cell_at (fun _ _ _ _ _ _ us hl => match us, hl with | [_, _], _ => rfl) (fun vs H Q E h => ?_) (fun f cdv A outer s H vs Q E hr h => ?_)
  · obtain ⟨a, ns, k, rfl, _⟩ := h
    rfl
  obtain ⟨a, ns, k, rfl, hS, hk, q⟩ := h
  refine ⟨_, (pss_cons (ps_if (pt_cmpR op_lt (pv 1) (pe_callB call_len_seq rfl m_len PySem.boot_len (pa_cons (pv 0) pa_nil)) (nomark _)) (pss_one (ps_ret (pe_ix ix_list (pv 0) (pv 1) (fun _ _ => rfl)))) pss_nil) (pss_one (ps_ret pe_int))), ?_⟩
  walk_at "wp"
  refine ⟨a, _, rfl, .inl hS, ?_⟩
  walk_at "wp"
  refine ⟨fun c => ?_, fun c => ?_⟩
  · rw [List.length_map] at c
    exact rIxL_mk hS (atI_getD hk c) q
  · rw [List.length_map] at c
    have e : ns.getD k.toNat 0 = 0 := by
      rw [List.getD_eq_getElem?_getD, List.getElem?_eq_none (by omega)]
      rfl
    rw [e] at q
    exact q

def sp_sum3 (K : PySem.W.Frag) : Sp := fun vs H Q _ => ∃ (a : Addr) (ns : List Int) (s m : Int), vs = [.ref a, .int s, .int m] ∧ SqL K H a (ns.map V.int) ∧ ns.length ≤ 63 ∧ 1 ≤ m ∧ ∀ z : Int, 0 ≤ z → z < 10 ^ 40 → Q (.int z) H
theorem h_law_sum (T : TF K mg "_law_sum" s_law_sum) (m_len : mg "len" = none) (m_range : mg "range" = none) : Has P w K mg base 1 "_law_sum" ["cells", "start", "step"] (sp_sum3 K) := by
  refine T.has sc_law_sum (fun _ _ _ _ _ _ us hl => match us, hl with | [_, _, _], _ => rfl) (fun vs H Q E h => ?_) (fun f cdv A outer s H vs Q E hr h => ?_)
  · obtain ⟨a, ns, s, m, rfl, _⟩ := h
    rfl
  obtain ⟨a, ns, st, m, rfl, hS, h63, hm, q⟩ := h
  refine ⟨_, (pss_cons (ps_set (i := 3) sc_law_sum.nd rfl (Or.inl rfl) (pv 1)) (pss_cons (ps_for PassesOwn.never rfl (pi_range1 rfl m_range (pa_cons (pe_callB call_len_seq rfl m_len PySem.boot_len (pa_cons (pv 0) pa_nil)) pa_nil)) (pg_name (i := 4) sc_law_sum.nd rfl (Or.inl rfl)) (pss_one (ps_if (pt_cmpR op_eq (pe_op op_mod (pv 4) (pv 2)) (pe_op op_mod (pv 1) (pv 2)) (nomark _)) (pss_one (ps_set (i := 3) sc_law_sum.nd rfl (Or.inl rfl) (pe_op op_add (pe_op op_mulA (pv 3) pe_int) (pe_ix ix_list (pv 0) (pv 4) (fun _ _ => rfl))))) pss_nil))) (pss_one (ps_ret (pe_op op_mod (pv 3) (pe_op op_pow pe_int pe_int)))))), ?_⟩
  walk_at "wp"
  refine ⟨a, _, rfl, .inl hS, ?_⟩
  walk_at "wp"
  refine ⟨_, rfl, by rw [List.length_map]; omega, by rw [List.length_map]; omega, ?_⟩
  obtain ⟨W, hW⟩ : ∃ W : Nat → St → Hp → Prop, W = fun _ σ H' => ∃ (n : Int) (o1 : Option V), σ = [some (.ref a), some (.int st), some (.int m), some (.int n), o1] ∧ H' = H := ⟨_, rfl⟩
  refine forW_range W ?_ (fun i σ H' hi h => ?_) (fun σ H' h => ?_)
  · rw [hW]
    exact ⟨_, none, rfl, rfl⟩
  · rw [hW] at h
    obtain ⟨n, o1, rfl, rfl⟩ := h
    rw [List.length_map] at hi
    walk_at "wp"
    refine ⟨by omega, by omega, fun _ => ?_, fun _ => ?_⟩
    · refine ⟨mokS (by decide) (by decide), rIxL_mk hS (atI_getD (by omega) (by omega)) ?_⟩
      walk_at "wp"
      rw [hW]
      exact ⟨_, _, rfl, rfl⟩
    · rw [hW]
      exact ⟨_, _, rfl, rfl⟩
  · rw [hW] at h
    obtain ⟨n, o1, rfl, rfl⟩ := h
    walk_at "wp"
    have b := modB n (show (0 : Int) < 10 ^ Int.toNat 40 by decide)
    exact ⟨⟨by decide, by decide, by decide⟩, by decide, q _ b.1 b.2⟩

def sp_isp : Sp := fun vs H Q _ => ∃ n : Int, vs = [.int n] ∧ 2 ≤ n ∧ n < 2 ^ 60 ∧ ∀ b : Bool, (b = true ↔ IsPart n n) → Q (.bl b) H
theorem h_law_is_prime (T : TF K mg "_law_is_prime" s_law_is_prime) : Has P w K mg base 1 "_law_is_prime" ["number"] sp_isp := by
  refine T.has sc_law_is_prime (fun _ _ _ _ _ _ us hl => match us, hl with | [_], _ => rfl) (fun vs H Q E h => ?_) (fun f cdv A outer s H vs Q E hr h => ?_)
  · obtain ⟨n, rfl, _⟩ := h
    rfl
  obtain ⟨n, rfl, n2, n60, q⟩ := h
  refine ⟨_, (pss_cons (ps_set (i := 1) sc_law_is_prime.nd rfl (Or.inl rfl) pe_int) (pss_cons (ps_while PassesOwn.never (pt_cmpR op_le (pe_op op_mulA (pv 1) (pv 1)) (pv 0) (nomark _)) (pss_cons (ps_if (pt_cmpR op_eq (pe_op op_mod (pv 0) (pv 1)) pe_int (nomark _)) (pss_one (ps_ret pe_bl)) pss_nil) (pss_one (ps_set (i := 1) sc_law_is_prime.nd rfl (Or.inl rfl) (pe_op op_add (pv 1) pe_int))))) (pss_one (ps_ret (pe_cmpR op_gt (pv 0) pe_int (nomark _)))))), ?_⟩
  walk_at "wp"
  obtain ⟨W, hW⟩ : ∃ W : Nat → St → Hp → Prop, W = fun m σ H' => ∃ x : Int, σ = [some (.int n), some (.int x)] ∧ H' = H ∧ NoPart n x ∧ 2 ≤ x ∧ x < 2 ^ 31 ∧ m = (2 ^ 31 - x).toNat := ⟨_, rfl⟩
  refine ⟨W, ⟨_, by rw [hW]; exact ⟨2, rfl, rfl, fun d d2 dq => by omega, by decide, by decide, rfl⟩⟩, fun m σ H' h => ?_⟩
  rw [hW] at h
  obtain ⟨x, rfl, rfl, np, x2, x31, rfl⟩ := h
  walk_at "wp"
  refine ⟨mokS (by omega) (by omega), fun c => ?_, fun c => ?_⟩
  · have xl := sq_small (by omega) c n60
    refine ⟨_, fun _ _ h => h, ?_⟩
    walk_at "wp"
    refine ⟨by omega, fun c1 => q false ⟨(fun z => by cases z), fun z => absurd z (not_prime x2 c c1)⟩, fun c1 => ?_⟩
    refine ⟨(2 ^ 31 - (x + 1)).toNat, by omega, ?_⟩
    rw [hW]
    exact ⟨x + 1, rfl, rfl, np.up c1, by omega, by omega, rfl⟩
  · refine q _ ⟨fun _ => isPart_self n2 np (by omega) (by omega), fun _ => decide_eq_true (by omega)⟩
def sp_prime : Sp := fun vs H Q _ => ∃ n : Int, vs = [.int n] ∧ 2 ≤ n ∧ n ≤ 1000003 ∧ ∀ p : Int, n ≤ p → p ≤ 1000003 → IsPart p p → Q (.int p) H
theorem h_law_prime (T : TF K mg "_law_prime" s_law_prime) (G_law_is_prime : Has P w K mg base 1 "_law_is_prime" ["number"] sp_isp) : Has P w K mg base 2 "_law_prime" ["number"] sp_prime := by
  refine T.has sc_law_prime (fun _ _ _ _ _ _ us hl => match us, hl with | [_], _ => rfl) (fun vs H Q E h => ?_) (fun f cdv A outer s H vs Q E hr h => ?_)
  · obtain ⟨n, rfl, _⟩ := h
    rfl
  obtain ⟨n, rfl, n2, n6, q⟩ := h
  refine ⟨_, (pss_cons (ps_while PassesOwn.never (pt_not (pt_val (pe_def (G_law_is_prime.mono (by first | decide | omega)) hr (pa_cons (pv 0) pa_nil)) (fun _ => rfl))) (pss_one (ps_set (i := 0) sc_law_prime.nd rfl (Or.inl rfl) (pe_op op_add (pv 0) pe_int)))) (pss_one (ps_ret (pv 0)))), ?_⟩
  walk_at "wp"
  obtain ⟨W, hW⟩ : ∃ W : Nat → St → Hp → Prop, W = fun m σ H' => ∃ x : Int, σ = [some (.int x)] ∧ H' = H ∧ n ≤ x ∧ x ≤ 1000003 ∧ m = (1000003 - x).toNat := ⟨_, rfl⟩
  refine ⟨W, ⟨_, by rw [hW]; exact ⟨n, rfl, rfl, Int.le_refl _, n6, rfl⟩⟩, fun m σ H' h => ?_⟩
  rw [hW] at h
  obtain ⟨x, rfl, rfl, xn, x6, rfl⟩ := h
  walk_at "wp"
  refine ⟨x, rfl, by omega, by omega, fun b hb => ?_⟩
  cases b with
  | true =>
    walk_at "wp"
    exact q x xn x6 (hb.mp rfl)
  | false =>
    walk_at "wp"
    have ne : x ≠ 1000003 := fun e => by
      have := hb.mpr (e ▸ p6)
      cases this
    refine ⟨_, fun _ _ h => h, ?_⟩
    walk_at "wp"
    refine ⟨(1000003 - (x + 1)).toNat, by omega, ?_⟩
    rw [hW]
    exact ⟨x + 1, rfl, rfl, by omega, by omega, rfl⟩

def sp_is_prime : Sp := fun vs H Q _ => ∃ n : Int, vs = [.int n] ∧ n < 2 ^ 60 ∧ ∀ (b : Bool) H', Same H H' → (b = true ↔ IsPart n n) → Q (.bl b) H'
theorem h_is_prime (T : TF K mg "is_prime" s_is_prime) (G_least_part : Has P w K mg base 1 "least_part" ["number"] sp_least_part) : Has P w K mg base 2 "is_prime" ["number"] sp_is_prime := by
  refine T.has sc_is_prime (fun _ _ _ _ _ _ us hl => match us, hl with | [_], _ => rfl) (fun vs H Q E h => ?_) (fun f cdv A outer s H vs Q E hr h => ?_)
  · obtain ⟨n, rfl, _⟩ := h
    rfl
  obtain ⟨n, rfl, n60, q⟩ := h
  refine ⟨_, (pss_one (ps_ret (pe_and (pe_cmpR op_ge (pv 0) pe_int (nomark _)) (pe_one (pe_cmpR op_eq (pe_def (G_least_part.mono (by first | decide | omega)) hr (pa_cons (pv 0) pa_nil)) (pv 0) (nomark _)))))), ?_⟩
  walk_at "wp"
  refine ⟨fun c => ⟨n, rfl, c, n60, fun d H' hd g => ?_⟩, fun c => q _ _ (Same.refl _) ⟨(fun z => by cases z), fun z => absurd z.two c⟩⟩
  walk_at "wp"
  refine q _ _ g ⟨fun z => ?_, fun z => decide_eq_true (hd.uniq z)⟩
  have e := of_decide_eq_true z
  rw [e] at hd
  exact hd
def sp_pair_plan : Sp := fun vs H Q _ => ∃ a b : Int, vs = [.int a, .int b] ∧ IsPart a a ∧ IsPart b b ∧ a ≠ b ∧ a < 2 ^ 60 ∧ b < 2 ^ 60 ∧ ∀ (D : Addr) (xs : List V) (H' : Hp), Same H H' → H D = none → H' D = some (.lst xs) → Pl H' xs [(a, 0, 1), (b, 0, 1)] → Q (.ref D) H'
theorem h_pair_plan (T : TF K mg "pair_plan" s_pair_plan) (G_is_prime : Has P w K mg base 2 "is_prime" ["number"] sp_is_prime) : Has P w K mg base 3 "pair_plan" ["one", "other"] sp_pair_plan := by
  refine T.has sc_pair_plan (fun _ _ _ _ _ _ us hl => match us, hl with | [_, _], _ => rfl) (fun vs H Q E h => ?_) (fun f cdv A outer s H vs Q E hr h => ?_)
  · obtain ⟨a, b, rfl, _⟩ := h
    rfl
  obtain ⟨a, b, rfl, pa, pb, ne, a60, b60, q⟩ := h
  refine ⟨_, (pss_cons (ps_if (PW.pt (pw_or (pt_cmpR op_eq (pv 0) (pv 1) (nomark _)) (pw_or (pt_not (pt_val (pe_def (G_is_prime.mono (by first | decide | omega)) hr (pa_cons (pv 0) pa_nil)) (fun _ => rfl))) (pw_or1 (pt_not (pt_val (pe_def (G_is_prime.mono (by first | decide | omega)) hr (pa_cons (pv 1) pa_nil)) (fun _ => rfl))))))) (pss_one ps_never) pss_nil) (pss_one (ps_ret (pe_lst (pa_cons (pe_tup (pa_cons (pv 0) (pa_cons pe_int (pa_cons pe_int pa_nil)))) (pa_cons (pe_tup (pa_cons (pv 1) (pa_cons pe_int (pa_cons pe_int pa_nil)))) pa_nil)))))), ?_⟩
  walk_at "wp"
  refine ⟨fun c => absurd c ne, fun _ => ⟨a, rfl, a60, fun x H1 g1 hx => ?_⟩⟩
  have ex : x = true := hx.mpr pa
  subst ex
  walk_at "wp"
  refine ⟨b, rfl, b60, fun y H2 g2 hy => ?_⟩
  have ey : y = true := hy.mpr pb
  subst ey
  walk_at "wp"
  intro p1 z1 p2 z2 D zD
  have e1 := same_new z1 (tupW (a, 0, 1))
  have e2 := same_new z2 (tupW (b, 0, 1))
  have e3 := same_new zD (.lst [.ref p1, .ref p2])
  exact q D [.ref p1, .ref p2] _ (((g1.trans g2).trans (e1.trans e2)).trans e3) (((g1.trans g2).trans (e1.trans e2)).free zD) upd_same ((Pl.one (e3 _ _ (e2 _ _ upd_same))).snoc (e3 _ _ upd_same))

end
end SMk51
namespace SMk51
open PySem L2 SM
section
variable {P : Program} {w : World} {K : PySem.W.Frag} {mg : Str → Option Value} {base : Heap}
def sp_from (K : PySem.W.Frag) : Sp := fun vs H Q _ => ∃ z k : Int, vs = [.int z, .int k] ∧ 0 ≤ z ∧ z < 10 ^ 40 ∧ ∀ (p : Int) (H' : Hp), Same H H' → IsPart p p → p ≤ 100000007 → Q (.int p) H'
theorem h_law_from (T : TF K mg "_law_from" s_law_from) (G_law_prime : Has P w K mg base 2 "_law_prime" ["number"] sp_prime) : Has P w K mg base 3 "_law_from" ["number", "kind"] (sp_from K) := by
  refine T.has sc_law_from (fun _ _ _ _ _ _ us hl => match us, hl with | [_, _], _ => rfl) (fun vs H Q E h => ?_) (fun f cdv A outer s H vs Q E hr h => ?_)
  · obtain ⟨z, k, rfl, _⟩ := h
    rfl
  obtain ⟨z, k, rfl, z0, z1, q⟩ := h
  refine ⟨_, (pss_cons (ps_if (pt_cmpR op_eq (pe_op op_mod (pv 1) pe_int) pe_int (nomark _)) (pss_one (ps_ret (pe_ix ix_list (pe_lst (pa_cons pe_int (pa_cons pe_int pa_nil))) (pe_op op_mod (pv 0) pe_int) (fun _ _ => rfl)))) pss_nil) (pss_one (ps_ret (pe_def (G_law_prime.mono (by first | decide | omega)) hr (pa_cons (pe_op op_add pe_int (pe_op op_mod (pe_op op_mulA (pv 0) pe_int) (pe_ix ix_list (pe_lst (pa_cons pe_int (pa_cons pe_int (pa_cons pe_int pa_nil)))) (pe_op op_mod (pv 1) pe_int) (fun _ _ => rfl)))) pa_nil))))), ?_⟩
  have k4 := modB k (show (0 : Int) < 4 by decide)
  have z2 := modB z (show (0 : Int) < 2 by decide)
  walk_at "wp"
  refine ⟨by decide, fun _ p1 y1 => ⟨by decide, rIxL_mk (SqL.of upd_same) (atI_getD (zs := [1000003, 100000007]) z2.1 (by simp; omega)) ?_⟩, fun c => ⟨mokS (by decide) (by decide), fun p1 y1 => ⟨by decide, rIxL_mk (SqL.of upd_same) (atI_getD (zs := [30, 1000, 998999]) k4.1 (by simp; omega)) ?_⟩⟩⟩
  · have v := getD_all (Pz := fun z => IsPart z z ∧ z ≤ 100000007) (zs := [1000003, 100000007]) (i := (z % 2).toNat) (by
      intro z hz
      simp only [List.mem_cons, List.not_mem_nil, or_false] at hz
      rcases hz with rfl | rfl
      · exact ⟨p6, by decide⟩
      · exact ⟨p8, by decide⟩) (by simp; omega)
    exact q _ _ (same_new y1 _) v.1 v.2
  · have v := getD_all (Pz := fun z => 1 ≤ z ∧ z ≤ 998999) (zs := [30, 1000, 998999]) (i := (k % 4).toNat) (by decide) (by simp; omega)
    generalize ([30, 1000, 998999] : List Int).getD (k % 4).toNat 0 = mm at v
    have zb := modB (z * 48271) (show 0 < mm by omega)
    walk_at "wp"
    exact ⟨by omega, _, rfl, by omega, by omega, fun p pn p6 hp => q p _ (same_new y1 _) hp (by omega)⟩
theorem two_prime : IsPart 2 2 := ⟨by decide, Int.dvd_refl _, fun d d2 dq => by omega⟩
def sp_unlike : Sp := fun vs H Q _ => ∃ p : Int, vs = [.int p] ∧ IsPart p p ∧ ∀ r : Int, IsPart r r → r ≠ p → r ≤ 1000003 → Q (.int r) H
theorem h_law_unlike (T : TF K mg "_law_unlike" s_law_unlike) (G_law_prime : Has P w K mg base 2 "_law_prime" ["number"] sp_prime) : Has P w K mg base 3 "_law_unlike" ["prime"] sp_unlike := by
  refine T.has sc_law_unlike (fun _ _ _ _ _ _ us hl => match us, hl with | [_], _ => rfl) (fun vs H Q E h => ?_) (fun f cdv A outer s H vs Q E hr h => ?_)
  · obtain ⟨p, rfl, _⟩ := h
    rfl
  obtain ⟨p, rfl, hp, q⟩ := h
  refine ⟨_, (pss_cons (ps_if (pt_cmpR op_gt (pv 0) (pe_op op_pow pe_int pe_int) (nomark _)) (pss_one (ps_ret pe_int)) pss_nil) (pss_one (ps_ret (pe_def (G_law_prime.mono (by first | decide | omega)) hr (pa_cons (pe_op op_add (pv 0) pe_int) pa_nil))))), ?_⟩
  have p2 := hp.two
  walk_at "wp"
  have p106 : (10 : Int) ^ Int.toNat 6 = 1000000 := by decide
  rw [p106]
  refine ⟨⟨by decide, by decide, by decide⟩, fun c => q 2 two_prime (by omega) (by decide), fun c => ⟨_, rfl, by omega, by omega, fun r rn r6 hr => q r hr (by omega) r6⟩⟩
def sp_faulty (K : PySem.W.Frag) : Sp := fun vs H Q _ => ∃ z : Int, vs = [.int z] ∧ 0 ≤ z ∧ z < 10 ^ 40 ∧ ∀ (x : Int) (H' : Hp), Same H H' → ¬ IsPart x x → x < 2 ^ 60 → Q (.int x) H'
theorem not_prod {a b : Int} (a2 : 2 ≤ a) (b2 : 2 ≤ b) : ¬ IsPart (a * b) (a * b) := fun h => by
  have : a * 2 ≤ a * b := Int.mul_le_mul_of_nonneg_left b2 (by omega)
  exact h.least a a2 (by omega) ⟨b, rfl⟩
theorem h_law_faulty (T : TF K mg "_law_faulty" s_law_faulty) (G_law_prime : Has P w K mg base 2 "_law_prime" ["number"] sp_prime) : Has P w K mg base 3 "_law_faulty" ["number"] (sp_faulty K) := by
  refine T.has sc_law_faulty (fun _ _ _ _ _ _ us hl => match us, hl with | [_], _ => rfl) (fun vs H Q E h => ?_) (fun f cdv A outer s H vs Q E hr h => ?_)
  · obtain ⟨z, rfl, _⟩ := h
    rfl
  obtain ⟨z, rfl, z0, z1, q⟩ := h
  refine ⟨_, (pss_cons (ps_set (i := 1) sc_law_faulty.nd rfl (Or.inl rfl) (pe_op op_mod (pv 0) pe_int)) (pss_cons (ps_set (i := 0) sc_law_faulty.nd rfl (Or.inl rfl) (pe_op op_fdivA (pv 0) pe_int)) (pss_cons (ps_if (pt_cmpR op_eq (pv 1) pe_int (nomark _)) (pss_cons (ps_set (i := 2) sc_law_faulty.nd rfl (Or.inl rfl) (pe_def (G_law_prime.mono (by first | decide | omega)) hr (pa_cons (pe_op op_add pe_int (pe_op op_mod (pe_op op_fdivA (pv 0) pe_int) pe_int)) pa_nil))) (pss_cons (ps_if (pt_cmpR op_eq (pe_op op_mod (pv 0) pe_int) pe_int (nomark _)) (pss_one (ps_ret (pe_op op_mulA (pe_def (G_law_prime.mono (by first | decide | omega)) hr (pa_cons (pe_op op_add pe_int (pe_op op_mod (pe_op op_fdivA (pv 0) pe_int) pe_int)) pa_nil)) (pe_def (G_law_prime.mono (by first | decide | omega)) hr (pa_cons (pe_op op_add pe_int (pe_op op_mod (pe_op op_fdivA (pv 0) pe_int) pe_int)) pa_nil))))) pss_nil) (pss_one (ps_ret (pe_op op_mulA (pv 2) (pv 2)))))) pss_nil) (pss_cons (ps_if (pt_cmpR op_eq (pv 1) pe_int (nomark _)) (pss_one (ps_ret (pe_op op_sub pe_int (pe_op op_mod (pv 0) pe_int)))) pss_nil) (pss_cons (ps_if (pt_cmpR op_eq (pv 1) pe_int (nomark _)) (pss_one (ps_ret (pe_op op_sub pe_int (pe_op op_mod (pv 0) (pe_op op_pow pe_int pe_int))))) pss_nil) (pss_one (ps_ret (pe_op op_mulA (pe_op op_add pe_int (pe_op op_mod (pv 0) pe_int)) (pe_op op_add pe_int (pe_op op_mod (pe_op op_mulA (pe_op op_fdivA (pv 0) pe_int) (pe_op op_pow pe_int pe_int)) (pe_ix ix_list (pe_lst (pa_cons pe_int (pa_cons (pe_op op_pow pe_int pe_int) pa_nil))) (pe_op op_mod (pv 0) pe_int) (fun _ _ => rfl)))))))))))), ?_⟩
  walk_at "wp"
  have nb : 0 ≤ z / 6 ∧ z / 6 < 10 ^ 40 := by omega
  generalize z / 6 = n at nb ⊢
  have a1 := modB (n / 2) (show (0 : Int) < 1000 by decide)
  have a2 := modB (n / 2000) (show (0 : Int) < 1000 by decide)
  have a3 := modB n (show (0 : Int) < 2 by decide)
  have a4 := modB n (show (0 : Int) < 10 ^ Int.toNat 11 by decide)
  have a5 := modB n (show (0 : Int) < 1000 by decide)
  have d2 : ∀ x y : Int, 0 < y → y < 2 ^ 20 → CDivA x y := fun x y y0 y1 => divA 21 y0 (by omega) (by decide)
  have pq : ∀ x y : Int, 2 ≤ x → x ≤ 1000003 → 2 ≤ y → y ≤ 1000003 → IntMulOk x y ∧ Q (.int (x * y)) H := fun x y x2 x6 y2 y6 => by
    refine ⟨mokS (by omega) (by omega), q _ _ (Same.refl _) (not_prod x2 y2) ?_⟩
    have := Int.mul_le_mul x6 y6 (by omega) (by decide)
    have e : (1000003 : Int) * 1000003 < 2 ^ 60 := by decide
    omega
  refine ⟨by decide, d2 _ _ (by decide) (by decide), fun _ => ⟨d2 _ _ (by decide) (by decide), by decide, _, rfl, by omega, by omega, fun p pn p6 hp => ?_⟩, fun _ => ⟨fun _ => ⟨by decide, q _ _ (Same.refl _) (fun h => by have := h.two; omega) (by omega)⟩, fun _ => ⟨fun _ => ⟨⟨by decide, by decide, by decide⟩, by decide, q _ _ (Same.refl _) (fun h => by have := h.two; omega) (by omega)⟩, fun _ => ?_⟩⟩⟩
  · refine ⟨by decide, fun _ => ⟨d2 _ _ (by decide) (by decide), by decide, _, rfl, by omega, by omega, fun x xn x6 hx => ⟨d2 _ _ (by decide) (by decide), by decide, _, rfl, by omega, by omega, fun y yn y6 hy => ?_⟩⟩, fun _ => ?_⟩
    · walk_at "wp"
      exact pq x y (by omega) x6 (by omega) y6
    · walk_at "wp"
      exact pq p p (by omega) p6 (by omega) p6
  · refine ⟨by decide, d2 _ _ (by decide) (by decide), ⟨by decide, by decide, by decide⟩, mok 200 200 (by omega) (by decide) (by decide), ⟨by decide, by decide, by decide⟩, fun p1 y1 => ⟨by decide, rIxL_mk (SqL.of upd_same) (atI_getD (zs := [20, 10 ^ Int.toNat 8]) a3.1 (by simp; omega)) ?_⟩⟩
    have v := getD_all (Pz := fun z => 1 ≤ z ∧ z ≤ 10 ^ 8) (zs := [20, 10 ^ Int.toNat 8]) (i := (n % 2).toNat) (by
      intro z hz
      simp only [List.mem_cons, List.not_mem_nil, or_false] at hz
      rcases hz with rfl | rfl <;> decide) (by simp; omega)
    generalize ([20, 10 ^ Int.toNat 8] : List Int).getD (n % 2).toNat 0 = mm at v
    have mb := modB (n / 1000 * 7 ^ Int.toNat 30) (show 0 < mm by omega)
    walk_at "wp"
    generalize n / 1000 * 7 ^ Int.toNat 30 % mm = c at mb ⊢
    refine ⟨by omega, mokS (by omega) (by omega), q _ _ (same_new y1 _) (not_prod (by omega) (by omega)) ?_⟩
    have := Int.mul_le_mul (show 2 + n % 1000 ≤ 1002 by omega) (show 2 + c ≤ 200000000 by omega) (by omega) (by decide)
    omega
def sp_same (K : PySem.W.Frag) : Sp := fun vs H Q _ => ∃ (D : Addr) (xs : List V) (a b : Int), vs = [.ref D, .int a, .int b] ∧ H D = some (.lst xs) ∧ Pl H xs [(a, 0, 1), (b, 0, 1)] ∧ ∀ H', Same H H' → Q (.bl true) H'
theorem h_law_same (T : TF K mg "_law_same" s_law_same) (m_isinstance : mg "isinstance" = none) (m_int : mg "int" = none) (m_bool : mg "bool" = none) (m_list : mg "list" = none) (m_tuple : mg "tuple" = none) (m_len : mg "len" = none) : Has P w K mg base 1 "_law_same" ["found", "one", "other"] (sp_same K) := by
  refine T.has sc_law_same (fun _ _ _ _ _ _ us hl => match us, hl with | [_, _, _], _ => rfl) (fun vs H Q E h => ?_) (fun f cdv A outer s H vs Q E hr h => ?_)
  · obtain ⟨D, xs, a, b, rfl, _⟩ := h
    rfl
  obtain ⟨D, xs, a, b, rfl, hD, hP, q⟩ := h
  refine ⟨_, (pss_cons (ps_if (PW.pt (pw_or (pt_not (pt_val (pe_callB call_isI rfl m_isinstance (by decide +kernel) (pa_cons (pv 0) (pa_cons (pe_bltn (v := .ty "list") rfl m_list (by decide +kernel) rfl) pa_nil))) (fun _ => rfl))) (pw_or (pt_cmpR op_ne (pe_callB call_len_seq rfl m_len PySem.boot_len (pa_cons (pv 0) pa_nil)) pe_int (nomark _)) (pw_or1 (pt_cmpR (op_neD hr.units) (pv 0) (pe_lst (pa_cons (pe_tup (pa_cons (pv 1) (pa_cons pe_int (pa_cons pe_int pa_nil)))) (pa_cons (pe_tup (pa_cons (pv 2) (pa_cons pe_int (pa_cons pe_int pa_nil)))) pa_nil))) (nomark _)))))) (pss_one (ps_ret pe_bl)) pss_nil) (pss_cons (ps_for PassesOwn.never rfl (pi_list (pv 0)) (pg_name (i := 3) sc_law_same.nd rfl (Or.inl rfl)) (pss_one (ps_for PassesOwn.never rfl (pi_tup (pv 3)) (pg_name (i := 4) sc_law_same.nd rfl (Or.inl rfl)) (pss_one (ps_if (PW.pt (pw_or (pt_not (pt_val (pe_callB call_isI rfl m_isinstance (by decide +kernel) (pa_cons (pv 4) (pa_cons (pe_bltn (v := .ty "int") rfl m_int (by decide +kernel) rfl) pa_nil))) (fun _ => rfl))) (pw_or1 (pt_val (pe_callB call_isI rfl m_isinstance (by decide +kernel) (pa_cons (pv 4) (pa_cons (pe_bltn (v := .ty "bool") rfl m_bool (by decide +kernel) rfl) pa_nil))) (fun _ => rfl))))) (pss_one (ps_ret pe_bl)) pss_nil))))) (pss_one (ps_ret (pe_and (pe_callB call_isI rfl m_isinstance (by decide +kernel) (pa_cons (pe_ix ix_list (pv 0) pe_int (fun _ _ => rfl)) (pa_cons (pe_bltn (v := .ty "tuple") rfl m_tuple (by decide +kernel) rfl) pa_nil))) (pe_one (pe_callB call_isI rfl m_isinstance (by decide +kernel) (pa_cons (pe_ix ix_list (pv 0) pe_int (fun _ _ => rfl)) (pa_cons (pe_bltn (v := .ty "tuple") rfl m_tuple (by decide +kernel) rfl) pa_nil))))))))), ?_⟩
  have lx : xs.length = 2 := hP.1
  walk_at "wp"
  refine ⟨_, _, _, true, rfl, .lst hD, rfl, ?_⟩
  walk_at "wp"
  refine ⟨_, _, rfl, .inl (SqL.of hD), fun c => absurd (by omega) c, fun _ => ?_⟩
  intro p1 z1 p2 z2 p3 z3
  have e1 := same_new z1 (tupW (a, 0, 1))
  have e2 := same_new z2 (tupW (b, 0, 1))
  have e3 := same_new z3 (.lst [.ref p1, .ref p2])
  have g3 : Same H (upd (upd (upd H p1 (tupW (a, 0, 1))) p2 (tupW (b, 0, 1))) p3 (.lst [.ref p1, .ref p2])) := (e1.trans e2).trans e3
  have hd : Pl (upd (upd (upd H p1 (tupW (a, 0, 1))) p2 (tupW (b, 0, 1))) p3 (.lst [.ref p1, .ref p2])) [.ref p1, .ref p2] [(a, 0, 1), (b, 0, 1)] := (Pl.one (e3 _ _ (e2 _ _ upd_same))).snoc (e3 _ _ upd_same)
  have hu : (upd (upd (upd H p1 (tupW (a, 0, 1))) p2 (tupW (b, 0, 1))) p3 (.lst [.ref p1, .ref p2])) p3 = some (.lst [.ref p1, .ref p2]) := upd_same
  show rNeD K (.ref D) (.ref p3) (upd (upd (upd H p1 (tupW (a, 0, 1))) p2 (tupW (b, 0, 1))) p3 (.lst [.ref p1, .ref p2])) _
  generalize upd (upd (upd H p1 (tupW (a, 0, 1))) p2 (tupW (b, 0, 1))) p3 (.lst [.ref p1, .ref p2]) = H3 at g3 hd hu ⊢
  have hD3 := g3 _ _ hD
  have hP3 := hP.same g3
  refine neP (SqL.of hD3) hP3 (SqL.of hu) hd ?_
  rw [decide_eq_true rfl]
  walk_at "wp"
  refine ⟨⟨_, SqL.of hD3⟩, ?_⟩
  obtain ⟨W, hW⟩ : ∃ W : Nat → St → Hp → Prop, W = fun i σ H' => ∃ o1 o2 : Option V, σ = [some (.ref D), some (.int a), some (.int b), o1, o2] ∧ H' = H3 := ⟨_, rfl⟩
  refine forW_list (xs := xs) W ?_ (fun i σ H' _ z => ?_) (fun i x σ H' hx z => ?_) (fun σ H' z => ?_)
  · rw [hW]
    exact ⟨none, none, rfl, rfl⟩
  · rw [hW] at z
    obtain ⟨_, _, _, rfl⟩ := z
    exact SqL.of hD3
  · rw [hW] at z
    obtain ⟨o1, o2, rfl, rfl⟩ := z
    obtain ⟨pb, u, f1, rfl, f3⟩ := hP3.at hx
    have hT : SqT K H' pb [.int u.1, .int u.2.1, .int u.2.2] := SqT.of f3
    walk_at "wp"
    refine ⟨⟨_, hT⟩, ?_⟩
    obtain ⟨Z, hZ⟩ : ∃ Z : Nat → St → Hp → Prop, Z = fun _ σ H2 => ∃ o : Option V, σ = [some (.ref D), some (.int a), some (.int b), some (.ref pb), o] ∧ H2 = H' := ⟨_, rfl⟩
    refine forW_tup (xs := [V.int u.1, .int u.2.1, .int u.2.2]) Z ?_ (fun j σ H2 _ z => ?_) (fun j x σ H2 hx z => ?_) (fun σ H2 z => ?_)
    · rw [hZ]
      exact ⟨_, rfl, rfl⟩
    · rw [hZ] at z
      obtain ⟨_, _, rfl⟩ := z
      exact hT
    · rw [hZ] at z
      obtain ⟨o, rfl, rfl⟩ := z
      have : ∃ n : Int, x = .int n := by
        have hm := List.mem_of_getElem? hx
        simp only [List.mem_cons, List.not_mem_nil, or_false] at hm
        rcases hm with rfl | rfl | rfl <;> exact ⟨_, rfl⟩
      obtain ⟨n, rfl⟩ := this
      walk_at "wp"
      rw [hZ]
      exact ⟨_, rfl, rfl⟩
    · rw [hZ] at z
      obtain ⟨o, rfl, rfl⟩ := z
      rw [hW]
      exact ⟨_, _, rfl, rfl⟩
  · rw [hW] at z
    obtain ⟨o1, o2, rfl, rfl⟩ := z
    obtain ⟨q1, u1, x1, _, _, t1⟩ := hP3.ix (i := 0) (by decide) (by simp)
    obtain ⟨q2, u2, x2, _, _, t2⟩ := hP3.ix (i := 1) (by decide) (by simp)
    walk_at "wp"
    refine rIxL_mk (SqL.of hD3) x1 ?_
    refine ⟨_, _, _, true, rfl, .tup t1, rfl, ?_⟩
    walk_at "wp"
    refine rIxL_mk (SqL.of hD3) x2 ?_
    refine ⟨_, _, _, true, rfl, .tup t2, rfl, ?_⟩
    exact q _ g3
def sp_pairX (C : Addr) : Sp := fun vs H _ E => ∃ a b : Int, vs = [.int a, .int b] ∧ (a = b ∨ ¬ IsPart a a ∨ ¬ IsPart b b) ∧ a < 2 ^ 60 ∧ b < 2 ^ 60 ∧ ∀ x H', Same H H' → H' x = none → E (.ref C) (some x) H'
theorem h_pair_planX {c_NoPrimes : Addr} {bm : List Value} (T : TF K mg "pair_plan" s_pair_plan) (O_NoPrimes : OX K mg "NoPrimes" c_NoPrimes bm) (G_is_prime : Has P w K mg base 2 "is_prime" ["number"] sp_is_prime) : HasX P w K mg base 3 "pair_plan" ["one", "other"] (sp_pairX c_NoPrimes) := by
  refine T.hasX sc_pair_plan (fun _ _ _ _ _ _ us hl => match us, hl with | [_, _], _ => rfl) (fun vs H Q E h => ?_) (fun f cdv A outer s H vs Q E hr h => ?_)
  · obtain ⟨a, b, rfl, _⟩ := h
    rfl
  obtain ⟨a, b, rfl, hbad, a60, b60, q⟩ := h
  refine ⟨_, (pss_cons (ps_if (PW.pt (pw_or (pt_cmpR op_eq (pv 0) (pv 1) (nomark _)) (pw_or (pt_not (pt_val (pe_def (G_is_prime.mono (by first | decide | omega)) hr (pa_cons (pv 0) pa_nil)) (fun _ => rfl))) (pw_or1 (pt_not (pt_val (pe_def (G_is_prime.mono (by first | decide | omega)) hr (pa_cons (pv 1) pa_nil)) (fun _ => rfl))))))) (pss_one (ps_raise O_NoPrimes rfl throwX (pa_cons pe_str pa_nil))) pss_nil) (pss_one (ps_ret (pe_lst (pa_cons (pe_tup (pa_cons (pv 0) (pa_cons pe_int (pa_cons pe_int pa_nil)))) (pa_cons (pe_tup (pa_cons (pv 1) (pa_cons pe_int (pa_cons pe_int pa_nil)))) pa_nil)))))), ?_⟩
  walk_at "wp"
  refine ⟨fun _ => ⟨by decide, fun x hx => q x _ (Same.refl _) hx⟩, fun ne => ⟨a, rfl, a60, fun x H1 g1 hx => ?_⟩⟩
  cases x with
  | false =>
    walk_at "wp"
    exact ⟨by decide, fun x hx => q x _ g1 hx⟩
  | true =>
    walk_at "wp"
    refine ⟨b, rfl, b60, fun y H2 g2 hy => ?_⟩
    cases y with
    | false =>
      walk_at "wp"
      exact ⟨by decide, fun x hx => q x _ (g1.trans g2) hx⟩
    | true =>
      rcases hbad with e | e | e
      · exact absurd e ne
      · exact absurd (hx.mp rfl) e
      · exact absurd (hy.mp rfl) e
def sp_refused : Sp := fun vs H Q _ => ∃ a b : Int, vs = [.int a, .int b] ∧ (a = b ∨ ¬ IsPart a a ∨ ¬ IsPart b b) ∧ a < 2 ^ 60 ∧ b < 2 ^ 60 ∧ ∀ H', Same H H' → Q (.bl true) H'
theorem h_law_refused {c_MeetError c_NoPlan c_NoPaper c_NoPrimes c_TooMany c_NoText c_NoName c_NoRow : Addr} (T : TF K mg "_law_refused" s_law_refused) (m_isinstance : mg "isinstance" = none) (m_ValueError : mg "ValueError" = none) (O_MeetError : OX K mg "MeetError" c_MeetError VE) (O_NoPlan : OX K mg "NoPlan" c_NoPlan (.ref c_MeetError :: VE)) (O_NoPaper : OX K mg "NoPaper" c_NoPaper (.ref c_MeetError :: VE)) (O_NoPrimes : OX K mg "NoPrimes" c_NoPrimes (.ref c_MeetError :: VE)) (O_TooMany : OX K mg "TooMany" c_TooMany (.ref c_MeetError :: VE)) (O_NoText : OX K mg "NoText" c_NoText (.ref c_MeetError :: VE)) (O_NoName : OX K mg "NoName" c_NoName (.ref c_MeetError :: VE)) (O_NoRow : OX K mg "NoRow" c_NoRow (.ref c_MeetError :: VE))
    (ndE : [c_MeetError, c_NoPlan, c_NoPaper, c_NoPrimes, c_TooMany, c_NoText, c_NoName, c_NoRow].Nodup) (G_pair_plan : HasX P w K mg base 3 "pair_plan" ["one", "other"] (sp_pairX c_NoPrimes)) : Has P w K mg base 4 "_law_refused" ["one", "other"] sp_refused := by
  refine T.has sc_law_refused (fun _ _ _ _ _ _ us hl => match us, hl with | [_, _], _ => rfl) (fun vs H Q E h => ?_) (fun f cdv A outer s H vs Q E hr h => ?_)
  · obtain ⟨a, b, rfl, _⟩ := h
    rfl
  obtain ⟨a, b, rfl, hbad, a60, b60, q⟩ := h
  refine ⟨_, (pss_cons (ps_set (i := 2) sc_law_refused.nd rfl (Or.inl rfl) pe_bl) (pss_cons (ps_try rfl rfl rfl (pxs_expr (pxe_call rfl (G_pair_plan.mono (by first | decide | omega)) hr (pa_cons (pv 0) (pa_cons (pv 1) pa_nil)))) (ph_cons rfl (fun _ => pm_tup (cs := [c_NoName, c_NoPaper, c_NoPlan, c_NoRow, c_NoText, c_TooMany]) O_NoPrimes (by intro c hc; simp only [List.mem_cons, List.not_mem_nil, or_false] at hc; rcases hc with rfl | rfl | rfl | rfl | rfl | rfl; all_goals exact ⟨_, _, by assumption⟩) (pe_tup (pa_cons (pe_glob (v := .ref c_NoName) rfl O_NoName.bound rfl) (pa_cons (pe_glob (v := .ref c_NoPaper) rfl O_NoPaper.bound rfl) (pa_cons (pe_glob (v := .ref c_NoPlan) rfl O_NoPlan.bound rfl) (pa_cons (pe_glob (v := .ref c_NoRow) rfl O_NoRow.bound rfl) (pa_cons (pe_glob (v := .ref c_NoText) rfl O_NoText.bound rfl) (pa_cons (pe_glob (v := .ref c_TooMany) rfl O_TooMany.bound rfl) pa_nil)))))))) (fun _ => (pss_one (ps_set (i := 2) sc_law_refused.nd rfl (Or.inl rfl) pe_bl))) (ph_cons_as (i := 3) rfl sc_law_refused.nd (fun _ => pm_own O_NoPrimes O_NoPrimes) (fun _ => (pss_one (ps_set (i := 2) sc_law_refused.nd rfl (Or.inl rfl) (pe_and (pe_callB (call_isX O_NoPrimes O_MeetError (by simp)) rfl m_isinstance (by decide +kernel) (pa_cons (pv 3) (pa_cons (pe_glob (v := .ref c_MeetError) rfl O_MeetError.bound rfl) pa_nil))) (pe_one (pe_callB (call_isXT (T := "ValueError") O_NoPrimes (by simp) (by decide +kernel)) rfl m_isinstance (by decide +kernel) (pa_cons (pv 3) (pa_cons (pe_bltn (v := .ty "ValueError") rfl m_ValueError (by decide +kernel) rfl) pa_nil)))))))) ph_nil))) (pss_one (ps_ret (pv 2))))), ?_⟩
  walk_at "wp"
  have hn : ([Value.ref c_NoName, Value.ref c_NoPaper, Value.ref c_NoPlan, Value.ref c_NoRow, Value.ref c_NoText, Value.ref c_TooMany].any fun c => (Value.ref c_NoPrimes :: Value.ref c_MeetError :: VE).contains c) = false := by
    simp only [List.nodup_cons, List.mem_cons, List.not_mem_nil, or_false, not_or] at ndE
    simp only [List.any_cons, List.any_nil, List.contains_cons, Bool.or_eq_false_iff, beq_eq_false_iff_ne, ne_eq, Value.ref.injEq]
    obtain ⟨⟨m1, m2, m3, m4, m5, m6, m7⟩, ⟨p2, p3, p4, p5, p6, p7⟩, ⟨q3, q4, q5, q6, q7⟩, ⟨r4, r5, r6, r7⟩, _⟩ := ndE
    refine ⟨⟨fun z => r6 z.symm, fun z => m6 z.symm, by simp⟩, ⟨q3, fun z => m2 z.symm, by simp⟩, ⟨p3, fun z => m1 z.symm, by simp⟩, ⟨fun z => r7 z.symm, fun z => m7 z.symm, by simp⟩, ⟨fun z => r5 z.symm, fun z => m5 z.symm, by simp⟩, ⟨fun z => r4 z.symm, fun z => m4 z.symm, by simp⟩, trivial⟩
  have hc : (Value.ref c_NoPrimes :: Value.ref c_MeetError :: VE).contains (Value.ref c_NoPrimes) = true := by simp
  unfold tTry
  walk_at "wp"
  refine ⟨a, b, rfl, hbad, a60, b60, fun x H1 g1 hx => ⟨x, rfl, rfl, fun p hp => ⟨upd_same, ?_⟩⟩⟩
  rw [hn]
  walk_at "wp"
  refine ⟨rfl, ?_⟩
  unfold tBool
  rw [hc]
  unfold tSuiteAs
  walk_at "wp"
  exact ⟨x, rfl, upd_same, true, rfl, fun _ => ⟨x, rfl, upd_same, q _ (g1.trans fun b o hb => by rw [upd_ne (ne_of_none hb hx), upd_ne (ne_of_none hb hp)]; exact hb)⟩, fun z => (z rfl).elim⟩
def sp_law (K : PySem.W.Frag) : Sp := fun vs H Q _ => ∃ (a : Addr) (ns : List Int), vs = [.ref a] ∧ SqL K H a (ns.map V.int) ∧ ns.length ≤ 63 ∧ (∀ z ∈ ns, Builtin.Int.intBits z ≤ 2 ^ 20) ∧ ∀ H', Q (.bl true) H'
theorem sp_start (K : PySem.W.Frag) (H : Hp) (a : Addr) (ns : List Int) (h1 : ns.length ≤ 63) (hb : ∀ z ∈ ns, Builtin.Int.intBits z ≤ 2 ^ 20) (h2 : SqL K H a (ns.map V.int)) : sp_law K [.ref a] H (fun v _ => v = .bl true) fun _ _ _ => False := ⟨a, ns, rfl, h2, h1, hb, fun _ => rfl⟩

theorem h_law (T : TF K mg "law" s_law) (G_law_cell_at : Has P w K mg base 1 "_law_cell_at" ["script", "k"] (sp_cell_at K)) (G_law_sum : Has P w K mg base 1 "_law_sum" ["cells", "start", "step"] (sp_sum3 K)) (G_law_from : Has P w K mg base 3 "_law_from" ["number", "kind"] (sp_from K)) (G_law_unlike : Has P w K mg base 3 "_law_unlike" ["prime"] sp_unlike) (G_law_faulty : Has P w K mg base 3 "_law_faulty" ["number"] (sp_faulty K)) (G_law_same : Has P w K mg base 1 "_law_same" ["found", "one", "other"] (sp_same K)) (G_pair_plan : Has P w K mg base 3 "pair_plan" ["one", "other"] sp_pair_plan) (G_law_refused : Has P w K mg base 4 "_law_refused" ["one", "other"] sp_refused) :
    Has P w K mg base 5 "law" ["script"] (sp_law K) := by
  refine T.has sc_law (fun _ _ _ _ _ _ us hl => match us, hl with | [_], _ => rfl) (fun vs H Q E h => ?_) (fun f cdv A outer s H vs Q E hr h => ?_)
  · obtain ⟨a, ns, rfl, _⟩ := h
    rfl
  obtain ⟨a, ns, rfl, hS, h63, hbits, q⟩ := h
  refine ⟨_, (pss_cons (ps_set (i := 1) sc_law.nd rfl (Or.inl rfl) (pe_def (G_law_cell_at.mono (by first | decide | omega)) hr (pa_cons (pv 0) (pa_cons pe_int pa_nil)))) (pss_cons (ps_set (i := 2) sc_law.nd rfl (Or.inl rfl) (pe_def (G_law_from.mono (by first | decide | omega)) hr (pa_cons (pe_def (G_law_sum.mono (by first | decide | omega)) hr (pa_cons (pv 0) (pa_cons pe_int (pa_cons pe_int pa_nil)))) (pa_cons (pv 1) pa_nil)))) (pss_cons (ps_set (i := 3) sc_law.nd rfl (Or.inl rfl) (pe_def (G_law_from.mono (by first | decide | omega)) hr (pa_cons (pe_def (G_law_sum.mono (by first | decide | omega)) hr (pa_cons (pv 0) (pa_cons pe_int (pa_cons pe_int pa_nil)))) (pa_cons (pe_op op_fdivA (pv 1) pe_int) pa_nil)))) (pss_cons (ps_cut (ps_if (pt_cmpR op_eq (pv 2) (pv 3) (nomark _)) (pss_one (ps_set (i := 3) sc_law.nd rfl (Or.inl rfl) (pe_def (G_law_unlike.mono (by first | decide | omega)) hr (pa_cons (pv 2) pa_nil)))) pss_nil)) (pss_cons (ps_cut (ps_if (pt_cmpR op_eq (pe_op op_mod (pe_op op_fdivA (pv 1) pe_int) pe_int) pe_int (nomark _)) (pss_one (ps_par (i := 2) (j := 3) rfl sc_law.nd rfl rfl (by decide) rfl rfl (pa_cons (pv 3) (pa_cons (pv 2) pa_nil)) rfl)) pss_nil)) (pss_cons (ps_set (i := 4) sc_law.nd rfl (Or.inl rfl) (pe_def (G_pair_plan.mono (by first | decide | omega)) hr (pa_cons (pv 2) (pa_cons (pv 3) pa_nil)))) (pss_cons (ps_if (pt_not (pt_val (pe_def (G_law_same.mono (by first | decide | omega)) hr (pa_cons (pv 4) (pa_cons (pv 2) (pa_cons (pv 3) pa_nil)))) (fun _ => rfl))) (pss_one (ps_ret pe_bl)) pss_nil) (pss_cons (ps_expr (pe_bm PySem.F.plainAttrs_list PySem.F.slot_list_append PySem.F.type_list_append mt_append (pv 4) (pa_cons (pe_tup (pa_cons pe_int (pa_cons pe_int (pa_cons pe_int pa_nil)))) pa_nil))) (pss_cons (ps_if (pt_not (pt_val (pe_def (G_law_same.mono (by first | decide | omega)) hr (pa_cons (pe_def (G_pair_plan.mono (by first | decide | omega)) hr (pa_cons (pv 2) (pa_cons (pv 3) pa_nil))) (pa_cons (pv 2) (pa_cons (pv 3) pa_nil)))) (fun _ => rfl))) (pss_one (ps_ret pe_bl)) pss_nil) (pss_cons (ps_set (i := 5) sc_law.nd rfl (Or.inl rfl) (pe_def (G_law_faulty.mono (by first | decide | omega)) hr (pa_cons (pe_def (G_law_sum.mono (by first | decide | omega)) hr (pa_cons (pv 0) (pa_cons pe_int (pa_cons pe_int pa_nil)))) pa_nil))) (pss_cons (ps_set (i := 6) sc_law.nd rfl (Or.inl rfl) (pe_def (G_law_faulty.mono (by first | decide | omega)) hr (pa_cons (pe_op op_fdivA (pe_def (G_law_sum.mono (by first | decide | omega)) hr (pa_cons (pv 0) (pa_cons pe_int (pa_cons pe_int pa_nil)))) pe_int) pa_nil))) (pss_cons (ps_if (PW.pt (pw_or (pt_not (pt_val (pe_def (G_law_refused.mono (by first | decide | omega)) hr (pa_cons (pv 2) (pa_cons (pv 2) pa_nil))) (fun _ => rfl))) (pw_or (pt_not (pt_val (pe_def (G_law_refused.mono (by first | decide | omega)) hr (pa_cons (pv 5) (pa_cons (pv 3) pa_nil))) (fun _ => rfl))) (pw_or1 (pt_not (pt_val (pe_def (G_law_refused.mono (by first | decide | omega)) hr (pa_cons (pv 2) (pa_cons (pv 6) pa_nil))) (fun _ => rfl))))))) (pss_one (ps_ret pe_bl)) pss_nil) (pss_one (ps_ret (pe_and (pe_def (G_law_refused.mono (by first | decide | omega)) hr (pa_cons (pv 5) (pa_cons (pv 6) pa_nil))) (pe_one (pe_def (G_law_refused.mono (by first | decide | omega)) hr (pa_cons (pv 5) (pa_cons (pv 5) pa_nil))))))))))))))))))), ?_⟩
  walk_at "wp"
  refine ⟨a, ns, _, rfl, hS, by decide, ?_⟩
  generalize ns.getD (Int.toNat 0) 0 = kind
  walk_at "wp"
  refine ⟨a, ns, 1, 3, rfl, hS, h63, by decide, fun z1 z10 z11 => ?_⟩
  refine ⟨_, _, rfl, z10, z11, fun p H1 g1 hp p8 => ?_⟩
  refine ⟨a, ns, 2, 3, rfl, g1.seq hS, h63, by decide, fun z2 z20 z21 => ⟨divA 10 (by decide) (by decide) (by decide), ?_⟩⟩
  refine ⟨_, _, rfl, z20, z21, fun p' H2 g2 hp' p8' => ?_⟩
  have G2 := g1.trans g2
  obtain ⟨M, hM⟩ : ∃ M : St → Hp → Prop, M = fun σ H' => ∃ x y : Int, σ = [some (.ref a), some (.int kind), some (.int x), some (.int y), none, none, none] ∧ Same H H' ∧ IsPart x x ∧ IsPart y y ∧ x ≠ y ∧ x ≤ 100000007 ∧ y ≤ 100000007 := ⟨_, rfl⟩
  refine ⟨M, ?_, fun σ H3 h => ?_⟩
  · walk_at "wp"
    refine ⟨fun c => ⟨p, rfl, hp, fun r hr rn r6 => ?_⟩, fun c => ?_⟩
    · rw [hM]
      exact ⟨p, r, rfl, G2, hp, hr, fun e => rn e.symm, p8, by omega⟩
    · rw [hM]
      exact ⟨p, p', rfl, G2, hp, hp', c, p8, p8'⟩
  rw [hM] at h
  clear hp hp' p8 p8' G2 g1 g2
  obtain ⟨p, p', rfl, G2, hp, hp', ne, p8, p8'⟩ := h
  refine ⟨M, ?_, fun σ H3 h => ?_⟩
  · walk_at "wp"
    refine ⟨divA 10 (by decide) (by decide) (by decide), by decide, fun _ => ?_, fun _ => ?_⟩
    · rw [hM]
      exact ⟨p', p, rfl, G2, hp', hp, fun e => ne e.symm, p8', p8⟩
    · rw [hM]
      exact ⟨p, p', rfl, G2, hp, hp', ne, p8, p8'⟩
  rw [hM] at h
  clear hp hp' p8 p8' G2 ne
  obtain ⟨x, y, rfl, G3, hx, hy, ne, x8, y8⟩ := h
  have x60 : x < 2 ^ 60 := by omega
  have y60 : y < 2 ^ 60 := by omega
  walk_at "wp"
  refine ⟨x, y, rfl, hx, hy, ne, x60, y60, fun D xs H4 g4 nD hD hP => ?_⟩
  refine ⟨D, xs, x, y, rfl, hD, hP, fun H5 g5 => ?_⟩
  have hD5 := g5 _ _ hD
  walk_at "wp"
  refine ⟨.inl ⟨rfl, _, SqL.of hD5⟩, fun t zt => ?_⟩
  have gt := same_new zt (.tup [V.int 1, .int 0, .int 1])
  have lx : xs.length = 2 := hP.1
  refine ⟨D, xs, _, rfl, rfl, gt _ _ hD5, by rw [sizeLine_eq]; omega, ?_⟩
  have G6 : Same H (upd (upd H5 t (.tup [V.int 1, .int 0, .int 1])) D (.lst (xs ++ [V.ref t]))) := ((G3.trans (g4.trans g5)).trans gt).write (G3.free nD) _
  generalize upd (upd H5 t (.tup [V.int 1, .int 0, .int 1])) D (.lst (xs ++ [V.ref t])) = H6 at G6
  refine ⟨x, y, rfl, hx, hy, ne, x60, y60, fun D2 xs2 H7 g7 nD2 hD2 hP2 => ?_⟩
  refine ⟨D2, xs2, x, y, rfl, hD2, hP2, fun H8 g8 => ?_⟩
  have G8 := G6.trans (g7.trans g8)
  walk_at "wp"
  refine ⟨a, ns, 3, 3, rfl, G8.seq hS, h63, by decide, fun z3 z30 z31 => ?_⟩
  refine ⟨_, rfl, z30, z31, fun wrong H9 g9 hw w60 => ?_⟩
  have G9 := G8.trans g9
  refine ⟨a, ns, 3, 3, rfl, G9.seq hS, h63, by decide, fun z4 z40 z41 => ?_⟩
  walk_at "wp"
  refine ⟨divA 10 (by decide) (by decide) (by decide), _, rfl, by omega, by omega, fun worse H10 g10 hv v60 => ?_⟩
  refine ⟨x, x, rfl, .inl rfl, x60, x60, fun H11 g11 => ⟨true, rfl, (fun z => by cases z), fun _ => ?_⟩⟩
  refine ⟨wrong, y, rfl, .inr (.inl hw), w60, y60, fun H12 g12 => ⟨true, rfl, (fun z => by cases z), fun _ => ?_⟩⟩
  refine ⟨x, worse, rfl, .inr (.inr hv), x60, v60, fun H13 g13 => ⟨true, rfl, (fun z => by cases z), fun _ => ?_⟩⟩
  walk_at "wp"
  refine ⟨wrong, worse, rfl, .inr (.inl hw), w60, v60, fun H14 g14 => ?_⟩
  walk_at "wp"
  exact ⟨wrong, wrong, rfl, .inl rfl, w60, w60, fun H15 _ => q _⟩
theorem fin {fa : Addr} {h : Heap} (KX : K.In h) (G : h.Ns mainGlobals mg) (hfa : mg "law" = some (.ref fa)) (T_least_part : TF K mg "least_part" s_least_part) (T_pair_plan : TF K mg "pair_plan" s_pair_plan) (T_is_prime : TF K mg "is_prime" s_is_prime) (T_law_cell_at : TF K mg "_law_cell_at" s_law_cell_at) (T_law_sum : TF K mg "_law_sum" s_law_sum) (T_law_is_prime : TF K mg "_law_is_prime" s_law_is_prime) (T_law_prime : TF K mg "_law_prime" s_law_prime) (T_law_from : TF K mg "_law_from" s_law_from) (T_law_unlike : TF K mg "_law_unlike" s_law_unlike) (T_law_refused : TF K mg "_law_refused" s_law_refused) (T_law_faulty : TF K mg "_law_faulty" s_law_faulty) (T_law_same : TF K mg "_law_same" s_law_same) (T_law : TF K mg "law" s_law) (m_len : mg "len" = none) (m_range : mg "range" = none) (m_isinstance : mg "isinstance" = none) (m_int : mg "int" = none) (m_bool : mg "bool" = none) (m_list : mg "list" = none) (m_tuple : mg "tuple" = none) (m_ValueError : mg "ValueError" = none)  {c_MeetError c_NoPlan c_NoPaper c_NoPrimes c_TooMany c_NoText c_NoName c_NoRow : Addr} (O_MeetError : OX K mg "MeetError" c_MeetError VE) (O_NoPlan : OX K mg "NoPlan" c_NoPlan (.ref c_MeetError :: VE)) (O_NoPaper : OX K mg "NoPaper" c_NoPaper (.ref c_MeetError :: VE)) (O_NoPrimes : OX K mg "NoPrimes" c_NoPrimes (.ref c_MeetError :: VE)) (O_TooMany : OX K mg "TooMany" c_TooMany (.ref c_MeetError :: VE)) (O_NoText : OX K mg "NoText" c_NoText (.ref c_MeetError :: VE)) (O_NoName : OX K mg "NoName" c_NoName (.ref c_MeetError :: VE)) (O_NoRow : OX K mg "NoRow" c_NoRow (.ref c_MeetError :: VE)) (ndE : [c_MeetError, c_NoPlan, c_NoPaper, c_NoPrimes, c_TooMany, c_NoText, c_NoName, c_NoRow].Nodup) :
    ∃ fd : FuncData, (∀ (s : Shared) (v : Value), BindsTo s fd ⟨[v], []⟩ [("script", v)]) ∧ ∀ base : Heap, K.In base → base.Ns mainGlobals mg → FnOk P w K mg base CX0 5 fa fd ["script"] (sp_law K) :=
  has_law KX G hfa fun _ _ _ =>
    have prime := h_law_prime T_law_prime (h_law_is_prime T_law_is_prime)
    have isp := h_is_prime T_is_prime (h_least_part T_least_part)
    h_law T_law (h_law_cell_at T_law_cell_at m_len) (h_law_sum T_law_sum m_len m_range) (h_law_from T_law_from prime) (h_law_unlike T_law_unlike prime) (h_law_faulty T_law_faulty prime) (h_law_same T_law_same m_isinstance m_int m_bool m_list m_tuple m_len) (h_pair_plan T_pair_plan isp) (h_law_refused T_law_refused m_isinstance m_ValueError O_MeetError O_NoPlan O_NoPaper O_NoPrimes O_TooMany O_NoText O_NoName O_NoRow ndE (h_pair_planX T_pair_plan O_NoPrimes isp))
end
end SMk51
set_option maxRecDepth 100000 in
set_option maxHeartbeats 0 in
theorem PySem.Challenge.cw_shiftmeet_k51_pair_plans_holds : PySem.Challenge.rw_shiftmeet_k51_pair_plans.Holds := by
  w_on; o_law; k_head; (case hw => w_witness2)
  k_fill
  refine L2.law_walk (l := PySem.Challenge.rw_shiftmeet_k51_pair_plans) (k := 5) (sp := SMk51.sp_law) rfl rfl ⟨rfl, by decide, by decide⟩ (fun w h Y => PySem.W.kIn_of Y) ?F SMk51.sp_start
  case F =>
    intro w mg fa h KX G hmg
    refine' SMk51.fin KX G hmg (L2.tf_mk KX G ?a0 ?l0 ?c0 ?k0) (L2.tf_mk KX G ?a1 ?l1 ?c1 ?k1) (L2.tf_mk KX G ?a2 ?l2 ?c2 ?k2) (L2.tf_mk KX G ?a3 ?l3 ?c3 ?k3) (L2.tf_mk KX G ?a4 ?l4 ?c4 ?k4) (L2.tf_mk KX G ?a5 ?l5 ?c5 ?k5) (L2.tf_mk KX G ?a6 ?l6 ?c6 ?k6) (L2.tf_mk KX G ?a7 ?l7 ?c7 ?k7) (L2.tf_mk KX G ?a8 ?l8 ?c8 ?k8) (L2.tf_mk KX G ?a9 ?l9 ?c9 ?k9) (L2.tf_mk KX G ?a10 ?l10 ?c10 ?k10) (L2.tf_mk KX G ?a11 ?l11 ?c11 ?k11) (L2.tf_mk KX G ?a12 ?l12 ?c12 ?k12) (PySem.W.mg_none_of KX G ?z0) (PySem.W.mg_none_of KX G ?z1) (PySem.W.mg_none_of KX G ?z2) (PySem.W.mg_none_of KX G ?z3) (PySem.W.mg_none_of KX G ?z4) (PySem.W.mg_none_of KX G ?z5) (PySem.W.mg_none_of KX G ?z6) (PySem.W.mg_none_of KX G ?z7) (L2.ox_mk KX G ?ea0 ?el0 ?ex0) (L2.ox_mk KX G ?ea1 ?el1 ?ex1) (L2.ox_mk KX G ?ea2 ?el2 ?ex2) (L2.ox_mk KX G ?ea3 ?el3 ?ex3) (L2.ox_mk KX G ?ea4 ?el4 ?ex4) (L2.ox_mk KX G ?ea5 ?el5 ?ex5) (L2.ox_mk KX G ?ea6 ?el6 ?ex6) (L2.ox_mk KX G ?ea7 ?el7 ?ex7) ?nd
    (case a0 => k_is); (case l0 => k_is); (case c0 => k_is); (case k0 => k_is)
    (case a1 => k_is); (case l1 => k_is); (case c1 => k_is); (case k1 => k_is)
    (case a2 => k_is); (case l2 => k_is); (case c2 => k_is); (case k2 => k_is)
    (case a3 => k_is); (case l3 => k_is); (case c3 => k_is); (case k3 => k_is)
    (case a4 => k_is); (case l4 => k_is); (case c4 => k_is); (case k4 => k_is)
    (case a5 => k_is); (case l5 => k_is); (case c5 => k_is); (case k5 => k_is)
    (case a6 => k_is); (case l6 => k_is); (case c6 => k_is); (case k6 => k_is)
    (case a7 => k_is); (case l7 => k_is); (case c7 => k_is); (case k7 => k_is)
    (case a8 => k_is); (case l8 => k_is); (case c8 => k_is); (case k8 => k_is)
    (case a9 => k_is); (case l9 => k_is); (case c9 => k_is); (case k9 => k_is)
    (case a10 => k_is); (case l10 => k_is); (case c10 => k_is); (case k10 => k_is)
    (case a11 => k_is); (case l11 => k_is); (case c11 => k_is); (case k11 => k_is)
    (case a12 => k_is); (case l12 => k_is); (case c12 => k_is); (case k12 => k_is)
    (case z0 => k_is)
    (case z1 => k_is)
    (case z2 => k_is)
    (case z3 => k_is)
    (case z4 => k_is)
    (case z5 => k_is)
    (case z6 => k_is)
    (case z7 => k_is)
    (case ea0 => k_is); (case el0 => k_is); (case ex0 => k_exc)
    (case ea1 => k_is); (case el1 => k_is); (case ex1 => k_exc)
    (case ea2 => k_is); (case el2 => k_is); (case ex2 => k_exc)
    (case ea3 => k_is); (case el3 => k_is); (case ex3 => k_exc)
    (case ea4 => k_is); (case el4 => k_is); (case ex4 => k_exc)
    (case ea5 => k_is); (case el5 => k_is); (case ex5 => k_exc)
    (case ea6 => k_is); (case el6 => k_is); (case ex6 => k_exc)
    (case ea7 => k_is); (case el7 => k_is); (case ex7 => k_exc)
    (case nd => decide +kernel)


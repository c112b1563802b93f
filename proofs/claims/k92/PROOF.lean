import PyProof.Rows.All
import Wide.All
import OpenK.AllK
import Wide.FinOn
import PyProof.EqAt
import PyProof.EqKinds
import PyProof.TupleCall
import Lean
import PySem.Challenge.RW_shiftmeet_k92_whole_grids_of_any_size
-- CHANGE: your row's module here, as the last of these rows
set_option Elab.async false
set_option linter.all false
set_option maxRecDepth 100000
namespace L2
open PySem PySem.Spec PyProof.Rows

abbrev Key := Sum Int Str
def keyIs : Key → Value → Bool
  | .inl k, v => Value.isInt k v
  | .inr x, v => Value.isStrOf x v
def keyH (w : World) : Key → Int
  | .inl k => hashInt k
  | .inr x => hashStr w x
theorem keyIs_shape : ∀ {k : Key} {v : Value}, keyIs k v = true → (∃ i t, k = Sum.inl i ∧ v = Value.int i t) ∨ (∃ x t, k = Sum.inr x ∧ v = Value.str x t)
  | .inl i, v, h => by
    obtain ⟨t, e⟩ := Value.isInt_shape (k := i) (v := v) h
    exact .inl ⟨i, t, rfl, e⟩
  | .inr x, v, h => by
    obtain ⟨t, e⟩ := Value.isStrOf_shape (x := x) (v := v) h
    exact .inr ⟨x, t, rfl, e⟩
theorem keyIs_int (i : Int) (t : Tok) : keyIs (.inl i) (.int i t) = true := by simp [keyIs, Value.isInt]
theorem keyIs_str (x : Str) (t : Tok) : keyIs (.inr x) (.str x t) = true := by simp [keyIs, Value.isStrOf]
theorem key_ll (a b : Int) : decide ((Sum.inl a : Key) = Sum.inl b) = (a == b) := by
  by_cases e : a = b
  · subst e; simp
  · have h : ¬ (Sum.inl a : Key) = Sum.inl b := fun q => e (Sum.inl.inj q)
    rw [decide_eq_false h]
    exact (beq_eq_false_iff_ne.mpr e).symm
theorem key_rr (a b : Str) : decide ((Sum.inr a : Key) = Sum.inr b) = decide (a = b) := by
  by_cases e : a = b
  · subst e; simp
  · have h : ¬ (Sum.inr a : Key) = Sum.inr b := fun q => e (Sum.inr.inj q)
    rw [decide_eq_false h, decide_eq_false e]
theorem key_lr (a : Int) (b : Str) : decide ((Sum.inl a : Key) = Sum.inr b) = false := decide_eq_false (fun q => nomatch q)
theorem key_rl (a : Str) (b : Int) : decide ((Sum.inr a : Key) = Sum.inl b) = false := decide_eq_false (fun q => nomatch q)

def mixKind (prog : Program) (w : World) : PySem.KeyKind prog w Key where
  is := keyIs
  hash := keyH w
  inj := fun v a b ha hb => by
    rcases keyIs_shape ha with ⟨i, t, rfl, rfl⟩ | ⟨x, t, rfl, rfl⟩
    · rcases keyIs_shape hb with ⟨j, u, rfl, e⟩ | ⟨y, u, rfl, e⟩
      · injection e with e1 _; rw [e1]
      · exact nomatch e
    · rcases keyIs_shape hb with ⟨j, u, rfl, e⟩ | ⟨y, u, rfl, e⟩
      · exact nomatch e
      · injection e with e1 _; rw [e1]
  byValue := fun k v h => by
    rcases keyIs_shape h with ⟨i, t, rfl, rfl⟩ | ⟨x, t, rfl, rfl⟩ <;> rfl
  pyHash := fun hv h => by
    rcases keyIs_shape hv with ⟨i, t, rfl, rfl⟩ | ⟨x, t, rfl, rfl⟩
    · exact wpAny_pyHash_int h
    · exact wpAny_pyHash_str h
  eqBool := fun hu hv h => by
    rcases keyIs_shape hu with ⟨i, t, rfl, rfl⟩ | ⟨x, t, rfl, rfl⟩
    · rcases keyIs_shape hv with ⟨j, u, rfl, rfl⟩ | ⟨y, u, rfl, rfl⟩
      · rw [key_ll] at h; exact wpAny_eqBool_int h
      · rw [key_lr] at h; exact SeqAt.EqAt.int_str i t y u _ _ _ _ h
    · rcases keyIs_shape hv with ⟨j, u, rfl, rfl⟩ | ⟨y, u, rfl, rfl⟩
      · rw [key_rl] at h; exact SeqAt.EqAt.str_int x t j u _ _ _ _ h
      · rw [key_rr] at h; exact wpAny_eqBool_str h
  «strs» := fun k x t v h => by
    rcases keyIs_shape h with ⟨i, u, rfl, e⟩ | ⟨y, u, rfl, e⟩
    · exact nomatch e
    · injection e with e1 _
      subst e1
      cases v <;> rfl

theorem mixKind_int (prog : Program) (w : World) (i : Int) (t : Tok) : (mixKind prog w).is (.inl i) (.int i t) = true := keyIs_int i t
theorem mixKind_str (prog : Program) (w : World) (x : Str) (t : Tok) : (mixKind prog w).is (.inr x) (.str x t) = true := keyIs_str x t
end L2

namespace L2
open PySem PySem.Spec PyProof.Rows

inductive V where
  | non | bl (b : Bool) | int (i : Int) | str (x : Str) | byt (b : Array UInt8) | flt (b : UInt64) | ref (a : Addr) | ty (n : String)
  deriving DecidableEq

def RelV : V → Value → Prop
  | .non, u => u = Value.none
  | .bl b, u => u = Value.bool b
  | .int i, u => ∃ t, u = Value.int i t
  | .str x, u => ∃ t, u = Value.str x t
  | .byt b, u => ∃ t, u = Value.bytes b t
  | .flt b, u => ∃ t, u = Value.float b t
  | .ref a, u => u = Value.ref a
  | .ty n, u => u = Value.type n

abbrev Vals : List V → List Value → Prop := Paired RelV
theorem Vals.length {xs : List V} {us : List Value} (r : Vals xs us) : xs.length = us.length := Paired.length r
theorem Vals.get : ∀ {xs : List V} {us : List Value} {i : Nat} {x : V}, Vals xs us → xs[i]? = some x → ∃ u, us[i]? = some u ∧ RelV x u
  | _, _, _, _, .nil, e => by simp at e
  | _, _, 0, _, .cons r _, e => by simp at e; subst e; exact ⟨_, rfl, r⟩
  | _, _, i + 1, x, .cons _ t, e => by
    obtain ⟨u, h1, h2⟩ := Vals.get (i := i) (x := x) t (by simpa using e)
    exact ⟨u, by simpa using h1, h2⟩
theorem Vals.set {x : V} {u : Value} (r : RelV x u) : ∀ {xs : List V} {us : List Value} (i : Nat), Vals xs us → Vals (xs.set i x) (us.set i u)
  | _, _, _, .nil => .nil
  | _, _, 0, .cons _ t => .cons r t
  | _, _, i + 1, .cons q t => .cons q (Vals.set r i t)
theorem Vals.append : ∀ {xs ys : List V} {us ws : List Value}, Vals xs us → Vals ys ws → Vals (xs ++ ys) (us ++ ws)
  | _, _, _, _, .nil, s => s
  | _, _, _, _, .cons r t, s => .cons r (Vals.append t s)
theorem Vals.take : ∀ {xs : List V} {us : List Value} (n : Nat), Vals xs us → Vals (xs.take n) (us.take n)
  | _, _, 0, _ => .nil
  | _, _, _ + 1, .nil => .nil
  | _, _, n + 1, .cons r t => .cons r (Vals.take n t)
theorem Vals.drop : ∀ {xs : List V} {us : List Value} (n : Nat), Vals xs us → Vals (xs.drop n) (us.drop n)
  | _, _, 0, r => r
  | _, _, _ + 1, .nil => .nil
  | _, _, n + 1, .cons _ t => Vals.drop n t
theorem Vals.none_of : ∀ {xs : List V} {us : List Value} {i : Nat}, Vals xs us → xs[i]? = none → us[i]? = none := fun {xs us i} r e => by
  have h1 := r.length
  have h2 : xs.length ≤ i := List.getElem?_eq_none_iff.mp e
  exact List.getElem?_eq_none_iff.mpr (by omega)

def RelO : Option V → Option Value → Prop
  | some v, some u => RelV v u
  | none, none => True
  | _, _ => False
def KV {κ : Type} : List (κ × V) → List (κ × Value) → Prop := Paired fun (p : κ × V) (q : κ × Value) => p.1 = q.1 ∧ RelV p.2 q.2

def kV : Key → V
  | .inl i => .int i
  | .inr x => .str x

inductive HO where
  /-- a list -/
  | lst (xs : List V)
  /-- a tuple (never changes) -/
  | tup (xs : List V)
  /-- a dict whose keys are ints and texts; one whose keys are tuples of ints and texts (the empty one is both) -/
  | dK (kvs : List (Key × V)) | dT (kvs : List (List Key × V))
  /-- a set of ints: its members, its size -/
  | set (S : Int → Bool) (n : Nat)
  /-- an instance of the class at C, its dict at dx, its attributes -/
  | ins (C dx : Addr) (fs : List (Str × V))
  /-- the dict of the instance at x -/
  | own (x : Addr)
  /-- the dict of an exception -/
  | xd (fs : List (Str × V))
  /-- a bound method, f of x -/
  | met (f x : Addr)
  /-- a range object lo, lo + 1, .. below hi -/
  | rng (lo hi : Int)
  /-- a thing that is known to the object (the script; a dict while a loop walks it): read, never written while it is so -/
  | frz (o : Obj) (u : HO)
  /-- a code object's table -/
  | tbl (ps : Array Value)
  /-- any other thing, by what is true of its one object (a def of one's own: SetO a S n := HO.ext fun h => ..) -/
  | ext (φ : Heap → Prop)

abbrev Hp := Addr → Option HO
def upd (H : Hp) (a : Addr) (o : HO) : Hp := fun b => if b = a then some o else H b
theorem upd_same {H : Hp} {a : Addr} {o : HO} : upd H a o a = some o := by unfold upd; rw [if_pos rfl]
theorem upd_ne {H : Hp} {a b : Addr} {o : HO} (h : b ≠ a) : upd H a o b = H b := by unfold upd; rw [if_neg h]
theorem ne_of {H : Hp} {a b : Addr} {o u : HO} (h : H a = some o) (h' : H b = some u) (d : o ≠ u) : a ≠ b := by
  intro e; subst e; rw [h] at h'; exact d (Option.some.inj h')
theorem ne_of_none {H : Hp} {a b : Addr} {o : HO} (h : H a = some o) (h' : H b = none) : a ≠ b := by
  intro e; subst e; rw [h] at h'; cases h'

section
variable (P : Program) (w : World)
def ObjOk (H : Hp) (h : Heap) (a : Addr) : HO → Prop
  | .lst xs => xs.length ≤ sizeLine ∧ ∃ (its : List Value) (n : Nat), Vals xs its ∧ h.get? a = some { cls := .type "list", data := .seq its.toArray n }
  | .tup xs => xs.length ≤ sizeLine ∧ ∃ its : List Value, Vals xs its ∧ IsTup h a its.toArray
  | .dK kvs => kvs.length ≤ sizeLine ∧ (a == sysModules) = false ∧ ∃ vs, KV kvs vs ∧ h.DictOf (mixKind P w) a vs
  | .dT kvs => kvs.length ≤ sizeLine ∧ (a == sysModules) = false ∧ ∃ xs : List (List Key × Addr × Value),
      Paired (fun (p : List Key × V) (q : List Key × Addr × Value) => p.1 = q.1 ∧ H q.2.1 = some (.tup (p.1.map kV)) ∧ RelV p.2 q.2.2) kvs xs ∧
      ∃ o es ep, h.get? a = some o ∧ o.ExactDict ∧ o.data = .dict es ep ∧ es.toList = xs.map (entryOfKey (tupleKind (mixKind P w))) ∧ (xs.map (·.1)).Nodup
  | .set S n => h.SetOf (intKind P w) a S n
  | .ins C dx fs => H dx = some (.own a) ∧ fs.length ≤ 1000 ∧ dx ≠ a ∧ h.get? a = some (PySem.W.instObj C dx) ∧
      ∃ mA, h.Ns1 dx mA ∧ (∀ f, RelO (fs.lookup f) (mA f)) ∧ PySem.Within mA (fs.map (·.1))
  | .own _ => ∃ o, h.get? a = some o
  | .xd fs => ∃ mA, h.Ns1 a mA ∧ ∀ f, RelO (fs.lookup f) (mA f)
  | .rng lo hi => ∃ t u v, h.get? a = some { cls := .type "range", data := .fields #[.int lo t, .int hi u, .int 1 v] }
  | .frz o u => h.get? a = some o ∧ ObjOk H h a u
  | .tbl ps => h.get? a = some { cls := .none, data := .fields ps }
  | .met f x => h.get? a = some (PySem.W.methodObj (.ref f) (.ref x))
  | .ext φ => φ h ∧ (∃ o, h.get? a = some o) ∧ ∀ h1 h2 : Heap, φ h1 → (∀ o, h1.get? a = some o → h2.get? a = some o) → φ h2
def HOk (H : Hp) (h : Heap) : Prop := ∀ a o, H a = some o → ObjOk P w H h a o
end

section
variable {P : Program} {w : World} {H H' : Hp} {h h' : Heap} {a : Addr} {o : HO}
theorem ObjOk.lt (x : ObjOk P w H h a o) : a < h.objs.size := by
  cases o with
  | lst xs => obtain ⟨_, _, _, _, e⟩ := x; exact Heap.lt_size e
  | tup xs => obtain ⟨_, _, _, p⟩ := x; exact p.lt
  | dK kvs => obtain ⟨_, _, _, _, o, _, _, e, _⟩ := x; exact Heap.lt_size e
  | dT kvs => obtain ⟨_, _, _, _, o, _, _, e, _⟩ := x; exact Heap.lt_size e
  | set S n => obtain ⟨o, _, _, _, e, _⟩ := x; exact Heap.lt_size e
  | ins C dx fs => obtain ⟨_, _, _, e, _⟩ := x; exact Heap.lt_size e
  | own y => obtain ⟨_, e⟩ := x; exact Heap.lt_size e
  | xd fs => obtain ⟨_, ⟨_, _, _, e, _⟩, _⟩ := x; exact Heap.lt_size e
  | rng lo hi => obtain ⟨_, _, _, e⟩ := x; exact Heap.lt_size e
  | frz ob u => obtain ⟨e, _⟩ := x; exact Heap.lt_size e
  | tbl ps => exact Heap.lt_size (show h.get? a = some _ from x)
  | met f y => exact Heap.lt_size (show h.get? a = some _ from x)
  | ext φ => obtain ⟨_, ⟨_, e⟩, _⟩ := x; exact Heap.lt_size e
theorem Paired.mapP {α β : Type} {F G : α → β → Prop} : ∀ {l₁ : List α} {l₂ : List β}, Paired F l₁ l₂ → (∀ a b, F a b → G a b) → Paired G l₁ l₂
  | _, _, .nil, _ => .nil
  | _, _, .cons r t, f => .cons (f _ _ r) (Paired.mapP t f)
theorem ObjOk.stay (x : ObjOk P w H h a o) (k : ∀ b u, (b = a ∨ H b = some (.own a)) → h.get? b = some u → h'.get? b = some u)
    (ho : ∀ b, H b = some (.own a) → H' b = some (.own a)) (ht : ∀ b xs, H b = some (.tup xs) → H' b = some (.tup xs)) : ObjOk P w H' h' a o := by
  induction o with
  | lst xs => obtain ⟨z, its, n, r, e⟩ := x; exact ⟨z, its, n, r, k _ _ (.inl rfl) e⟩
  | tup xs => obtain ⟨z, its, r, ob, e, c⟩ := x; exact ⟨z, its, r, ob, k _ _ (.inl rfl) e, c⟩
  | dK kvs => obtain ⟨z, y, vs, r, ob, es, ep, e, c⟩ := x; exact ⟨z, y, vs, r, ob, es, ep, k _ _ (.inl rfl) e, c⟩
  | dT kvs =>
    obtain ⟨z, y, xs, r, ob, es, ep, e, c⟩ := x
    exact ⟨z, y, xs, Paired.mapP r fun p q z => ⟨z.1, ht _ _ z.2.1, z.2.2⟩, ob, es, ep, k _ _ (.inl rfl) e, c⟩
  | set S n => obtain ⟨ob, es, ep, t, e, c⟩ := x; exact ⟨ob, es, ep, t, k _ _ (.inl rfl) e, c⟩
  | ins C dx fs =>
    obtain ⟨d, z, ne, e, mA, ⟨od, es, ep, e2, c⟩, r⟩ := x
    exact ⟨ho _ d, z, ne, k _ _ (.inl rfl) e, mA, ⟨od, es, ep, k _ _ (.inr d) e2, c⟩, r⟩
  | own y => obtain ⟨ob, e⟩ := x; exact ⟨ob, k _ _ (.inl rfl) e⟩
  | xd fs => obtain ⟨mA, ⟨od, es, ep, e, c⟩, r⟩ := x; exact ⟨mA, ⟨od, es, ep, k _ _ (.inl rfl) e, c⟩, r⟩
  | rng lo hi => obtain ⟨t, u, v, e⟩ := x; exact ⟨t, u, v, k _ _ (.inl rfl) e⟩
  | frz ob u ih => obtain ⟨e, q⟩ := x; exact ⟨k _ _ (.inl rfl) e, ih q⟩
  | tbl ps =>
    have e : h.get? a = some { cls := .none, data := .fields ps } := x
    show h'.get? a = some { cls := .none, data := .fields ps }
    exact k a _ (.inl rfl) e
  | met f y =>
    have e : h.get? a = some (PySem.W.methodObj (.ref f) (.ref y)) := x
    show h'.get? a = some (PySem.W.methodObj (.ref f) (.ref y))
    exact k a _ (.inl rfl) e
  | ext φ => obtain ⟨p, ⟨o, e⟩, st⟩ := x; exact ⟨st _ _ p fun o q => k _ _ (.inl rfl) q, ⟨o, k _ _ (.inl rfl) e⟩, st⟩
theorem HOk.lt (x : HOk P w H h) (e : H a = some o) : a < h.objs.size := (x a o e).lt
theorem HOk.fresh (x : HOk P w H h) (e : h.objs.size ≤ a) : H a = none := by
  cases q : H a with
  | none => rfl
  | some u => exact absurd (Nat.lt_of_lt_of_le (x.lt q) e) (Nat.lt_irrefl _)
theorem HOk.kept (x : HOk P w H h) (k : ∀ b u, h.get? b = some u → h'.get? b = some u) : HOk P w H h' := fun a o e =>
  (x a o e).stay (fun b u _ q => k b u q) (fun _ q => q) fun _ _ q => q
theorem HOk.laid (x : HOk P w H h) (k : ∀ b u, h.get? b = some u → h'.get? b = some u) (hp : h.objs.size ≤ a) (new : ObjOk P w (upd H a o) h' a o) : HOk P w (upd H a o) h' := fun b u e => by
  have hn := x.fresh hp
  by_cases hb : b = a
  · subst hb; rw [upd_same] at e; cases e; exact new
  · rw [upd_ne hb] at e
    exact (x b u e).stay (fun c v _ q => k c v q) (fun c q => by rw [upd_ne (ne_of_none q hn)]; exact q) fun c xs q => by rw [upd_ne (ne_of_none q hn)]; exact q
end

def Rd (H : Hp) (a : Addr) (u : HO) : Prop := H a = some u ∨ ∃ o, H a = some (.frz o u)
theorem Rd.of {H : Hp} {a : Addr} {u : HO} (h : H a = some u) : Rd H a u := .inl h
theorem Rd.ok {P : Program} {w : World} {H : Hp} {h : Heap} {a : Addr} {u : HO} (r : Rd H a u) (x : HOk P w H h) : ObjOk P w H h a u := by
  rcases r with r | ⟨o, r⟩
  · exact x a u r
  · obtain ⟨_, q⟩ := x a _ r
    exact q
def Mut : Option HO → Prop
  | some (.lst _) => True
  | some (.dK _) => True
  | some (.dT _) => True
  | some (.set _ _) => True
  | some (.ins _ _ _) => True
  | some (.ext _) => True
  | _ => False
section
variable {P : Program} {w : World} {H : Hp} {h h' : Heap} {x e : Addr} {o' : HO}
theorem HOk.write (ok : HOk P w H h) (mu : Mut (H x)) (he : e = x ∨ H e = some (.own x)) (k : ∀ b u, b ≠ e → h.get? b = some u → h'.get? b = some u) (heo : ∃ u, h'.get? e = some u)
    (new : ObjOk P w (upd H x o') h' x o') : HOk P w (upd H x o') h' := fun b u q => by
  have nown : ∀ c y, H c = some (.own y) → c ≠ x := fun c y r z => by subst z; rw [r] at mu; exact mu
  have ntup : ∀ c xs, H c = some (.tup xs) → c ≠ x := fun c xs r z => by subst z; rw [r] at mu; exact mu
  by_cases hb : b = x
  · subst hb; rw [upd_same] at q; cases q; exact new
  · rw [upd_ne hb] at q
    by_cases hbe : b = e
    · have q' : H b = some (.own x) := by
        rcases he with z | z
        · exact absurd (hbe.trans z) hb
        · rw [hbe]; exact z
      rw [q] at q'; cases q'
      obtain ⟨v, hv⟩ := heo
      exact ⟨v, by rw [hbe]; exact hv⟩
    · refine (ok b u q).stay (fun c v hc r => k c v ?_ r) (fun c r => by rw [upd_ne (nown c b r)]; exact r) fun c xs r => by rw [upd_ne (ntup c xs r)]; exact r
      rcases hc with rfl | hc
      · exact hbe
      · rintro rfl
        rcases he with z | z
        · exact nown c b hc z
        · rw [hc] at z; cases z; exact hb rfl
end

structure Un (fs ex : List Addr) (H H' : Hp) (h h' : Heap) : Prop where
  keep : ∀ b o, h.get? b = some o → H b = none → b ∉ fs → b ∉ ex → h'.get? b = some o
  slot : ∀ b o, h.get? b = some o → H b = none → b ∈ fs → b ∉ ex → ∃ sl, h'.get? b = some { o with slots := sl }
  free : ∀ b o, h.get? b = some o → H b = none → b ∉ ex → H' b = none
  there : ∀ b o, h.get? b = some o → b ∉ ex → ∃ o', h'.get? b = some o'
  tups : ∀ b xs, H b = some (.tup xs) → H' b = some (.tup xs)
  frzs : ∀ b o u, H b = some (.frz o u) → H' b = some (.frz o u)
  tbls : ∀ b ps, H b = some (.tbl ps) → ∃ more, H' b = some (.tbl (ps ++ more))
section
variable {fs fs' ex ex' : List Addr} {H H1 H2 : Hp} {h h1 h2 h' : Heap} {a x e : Addr} {o : HO}
theorem Un.any (u : Un fs ex H H1 h h1) {b : Addr} {ob : Obj} (q : h.get? b = some ob) (n : H b = none) (hx : b ∉ ex) : ∃ sl, h1.get? b = some { ob with slots := sl } := by
  by_cases hb : b ∈ fs
  · exact u.slot b ob q n hb hx
  · exact ⟨ob.slots, u.keep b ob q n hb hx⟩
theorem Un.trans (a : Un fs ex H H1 h h1) (b : Un fs ex H1 H2 h1 h2) : Un fs ex H H2 h h2 where
  keep := fun c ob q n hc hx => b.keep c ob (a.keep c ob q n hc hx) (a.free c ob q n hx) hc hx
  slot := fun c ob q n hc hx => by
    obtain ⟨sl, e1⟩ := a.slot c ob q n hc hx
    obtain ⟨sl', e2⟩ := b.slot c _ e1 (a.free c ob q n hx) hc hx
    exact ⟨sl', e2⟩
  free := fun c ob q n hx => by
    obtain ⟨o', e1⟩ := a.there c ob q hx
    exact b.free c o' e1 (a.free c ob q n hx) hx
  there := fun c ob q hx => by
    obtain ⟨o', e1⟩ := a.there c ob q hx
    exact b.there c o' e1 hx
  tups := fun c xs q => b.tups c xs (a.tups c xs q)
  frzs := fun c ob xs q => b.frzs c ob xs (a.frzs c ob xs q)
  tbls := fun c ps q => by
    obtain ⟨m1, e1⟩ := a.tbls c ps q
    obtain ⟨m2, e2⟩ := b.tbls c _ e1
    exact ⟨m1 ++ m2, by rw [e2, Array.append_assoc]⟩
theorem Un.kept (k : ∀ b u, h.get? b = some u → h'.get? b = some u) : Un fs ex H H h h' :=
  ⟨fun b ob q _ _ _ => k b ob q, fun b ob q _ _ _ => ⟨ob.slots, k b ob q⟩, fun _ _ _ n _ => n, fun b ob q _ => ⟨ob, k b ob q⟩, fun _ _ q => q, fun _ _ _ q => q, fun _ ps q => ⟨#[], by rw [q]; simp⟩⟩
theorem Un.refl : Un fs ex H H h h := Un.kept fun _ _ q => q
theorem Un.laid (k : ∀ b u, h.get? b = some u → h'.get? b = some u) (hp : h.objs.size ≤ a) (hn : H a = none) : Un fs ex H (upd H a o) h h' where
  keep := fun b u q _ _ _ => k b u q
  slot := fun b u q _ _ _ => ⟨u.slots, k b u q⟩
  free := fun b u q n _ => by rw [upd_ne (Nat.ne_of_lt (Nat.lt_of_lt_of_le (Heap.lt_size q) hp))]; exact n
  there := fun b u q _ => ⟨u, k b u q⟩
  tups := fun b xs q => by rw [upd_ne (ne_of_none q hn)]; exact q
  frzs := fun b u xs q => by rw [upd_ne (ne_of_none q hn)]; exact q
  tbls := fun b ps q => ⟨#[], by rw [upd_ne (ne_of_none q hn), q]; simp⟩
theorem Un.write (mu : Mut (H x)) (he : e = x ∨ H e = some (.own x)) (k : ∀ b u, b ≠ e → h.get? b = some u → h'.get? b = some u) (heo : ∃ u, h'.get? e = some u) : Un fs ex H (upd H x o) h h' := by
  have hx : ∀ b, H b = none → b ≠ x := fun b n z => by subst z; rw [n] at mu; exact mu
  have hb : ∀ b, H b = none → b ≠ e := fun b n z => by
    subst z
    rcases he with r | r
    · exact hx b n r
    · rw [n] at r; cases r
  have hm : ∀ b u, H b = some u → ¬ Mut (some u) → b ≠ x := fun b u q nm z => by subst z; rw [q] at mu; exact nm mu
  refine ⟨fun b u q n _ _ => k b u (hb b n) q, fun b u q n _ _ => ⟨u.slots, k b u (hb b n) q⟩, fun b u q n _ => by rw [upd_ne (hx b n)]; exact n, fun b u q _ => ?_,
    fun b xs q => by rw [upd_ne (hm b _ q fun z => z)]; exact q, fun b u xs q => by rw [upd_ne (hm b _ q fun z => z)]; exact q, fun b ps q => ⟨#[], by rw [upd_ne (hm b _ q fun z => z), q]; simp⟩⟩
  by_cases hbe : b = e
  · subst hbe; exact heo
  · exact ⟨u, k b u hbe q⟩
theorem Un.mono (u : Un fs ex H H1 h h1) (hs : ∀ b ∈ fs, b ∈ fs') (hx : ∀ b ∈ ex, b ∈ ex') : Un fs' ex' H H1 h h1 :=
  ⟨fun b ob q n hb he => u.keep b ob q n (fun z => hb (hs b z)) fun z => he (hx b z), fun _ _ q n _ he => u.any q n fun z => he (hx _ z), fun b ob q n he => u.free b ob q n fun z => he (hx b z), fun b ob q he => u.there b ob q fun z => he (hx b z), u.tups, u.frzs, u.tbls⟩
end

def trk (h : Heap) (H : Hp) : List Addr := (List.range h.objs.size).filter fun a => (H a).isSome
def hidT (h : Heap) (H : Hp) : Heap := PySem.W.hideAll h (trk h H)
theorem hidT_size (h : Heap) (H : Hp) : (hidT h H).objs.size = h.objs.size := PySem.W.hideAll_size _ _
theorem hidT_get {h : Heap} {H : Hp} {b : Addr} {o : Obj} (e : h.get? b = some o) (n : H b = none) : (hidT h H).get? b = some o :=
  PySem.W.hideAll_get _ e fun hm => by
    have q : (H b).isSome = true := (List.mem_filter.mp hm).2
    rw [n] at q; simp at q
theorem of_hidT {h : Heap} {H : Hp} {b : Addr} {o : Obj} (e : (hidT h H).get? b = some o) : h.get? b = some o ∧ H b = none := by
  have e' : h.get? b = some o := PySem.W.of_hideAll (trk h H) e
  refine ⟨e', ?_⟩
  cases q : H b with
  | none => rfl
  | some x =>
    have hm : b ∈ trk h H := List.mem_filter.mpr ⟨List.mem_range.mpr (Heap.lt_size e'), by simp [q]⟩
    have z : (hidT h H).get? b = none := PySem.W.hideAll_none (trk h H) hm
    rw [z] at e; cases e

def allNews (g h : Heap) (L : Addr) : List (Addr × Obj) := (List.range h.objs.size).filterMap fun a => if a = L ∨ (g.get? a).isSome = true then none else (h.get? a).map fun o => (a, o)
def rest (g h : Heap) (L d : Addr) : List (Addr × Obj) := (allNews g h L).filter fun p => decide (p.1 ≠ d)
end L2

namespace L2
open PySem PySem.Spec PyProof.Rows

structure Mod (K : PySem.W.Frag) (mg : Str → Option Value) (base : Heap) : Prop where
  kin : K.In base
  glob : base.Ns mainGlobals mg
  blt : ∃ mb, base.Ns builtinsNs mb ∧ ∀ x : Str, x ≠ "__name__" → mb x = bootBuiltins x
  nolimit : base.NoLimit

structure Cx where
  prog : Program
  w : World
  K : PySem.W.Frag
  mg : Str → Option Value
  base : Heap
  A : Around
  N : List Str
  s₀ : Shared
  H₀ : Hp
  env : Env
  outer : List Env
  stack : List Env
  ex : List Addr
  fn : Str → Bool
  calm : Bool
  pn : List (Addr × Obj)
  xe : Value → Shared → Prop
def frs (l : List Env) : List Addr := l.filterMap (·.frame)
abbrev Cx.fs (X : Cx) : List Addr := frs X.outer

def Vis (sc : Scope) (x : Str) : Prop := sc.names.lookup x = some .local ∨ sc.names.lookup x = some .cell ∨ sc.names.lookup x = some .free
def Loc (sc : Scope) (x : Str) : Prop := sc.names.lookup x = some .local ∨ sc.names.lookup x = some .cell
def Look (env : Env) (h : Heap) (m : Str → Option Value) (x : Str) (u : Value) : Prop :=
  (env.kindOf x = some .local ∧ m x = some u) ∨ ((env.kindOf x = some .cell ∨ env.kindOf x = some .free) ∧ ∃ c, env.cells.lookup x = some c ∧ h.IsCell c (some u))

structure Cx.Ok (X : Cx) : Prop where
  mod : Mod X.K X.mg X.base
  kind : X.env.scope.kind = .function
  glob : X.env.globals = mainGlobals
  blt : X.env.builtins = builtinsNs
  above : X.s₀.heap.objs.size ≤ X.env.locals
  inj : ∀ x y c, X.env.cells.lookup x = some c → X.env.cells.lookup y = some c → x = y
  has : ∀ x, (X.env.kindOf x = some .cell ∨ X.env.kindOf x = some .free) → ∃ c, X.env.cells.lookup x = some c
  cab : ∀ x c, X.fn x = true → X.env.cells.lookup x = some c → X.s₀.heap.objs.size ≤ c
  hd : X.calm = true → X.A.handled = none
  frames : X.A.frames = some X.stack
  stk : X.stack = X.outer ∨ (X.stack = X.env :: X.outer ∧ X.env.frame = some X.env.locals)
  exf : ∀ b ∈ X.ex, b ≠ X.env.locals ∧ ∀ x c, X.env.cells.lookup x = some c → c ≠ b
  bs : ∀ b o, X.base.get? b = some o → X.s₀.heap.get? b = some o ∧ X.H₀ b = none
  bsz : X.base.objs.size ≤ X.s₀.heap.objs.size
  noex : ∀ b o, X.base.get? b = some o → b ∉ X.ex
  exfs : ∀ b ∈ X.ex, b ∉ X.fs
  funs : X.s₀.heap.FunFrames X.base X.outer
  frf : ∀ b ∈ X.fs, X.H₀ b = none

structure Inv (X : Cx) (pins : List (Addr × Obj)) (σ : List (Option V)) (H : Hp) (s : Shared) : Prop where
  ok : X.Ok
  os : s.os = X.s₀.os
  bare : AllBare s.gens
  base : Un X.fs X.ex X.H₀ H X.s₀.heap s.heap
  loc : ∃ m, s.heap.Ns X.env.locals m ∧ ∀ (i : Nat) (x : Str) (v : V), X.N[i]? = some x → σ[i]? = some (some v) → Vis X.env.scope x → ∃ u, RelV v u ∧ Look X.env s.heap m x u
  cell : ∀ x c, X.env.cells.lookup x = some c → ∃ v, s.heap.IsCell c v
  free : H X.env.locals = none
  freeC : ∀ x c, X.env.cells.lookup x = some c → H c = none
  pin : ∀ p ∈ X.pn ++ pins, s.heap.get? p.1 = some p.2 ∧ H p.1 = none ∧ p.1 ≠ X.env.locals ∧ p.1 ∉ X.fs ∧ ∀ v, p.2.data ≠ .cell v
  hok : HOk X.prog X.w H s.heap
  len : σ.length = X.N.length

section
variable {X : Cx} {pins : List (Addr × Obj)} {σ : List (Option V)} {H H' : Hp} {s : Shared} {h' : Heap}

theorem Cx.Ok.nofr (ok : X.Ok) {b : Addr} {o : Obj} (e : X.base.get? b = some o) : b ∉ X.fs := fun hb => by
  have := (ok.funs.mem hb).1
  rw [e] at this; cases this
theorem Inv.bs (I : Inv X pins σ H s) : ∀ b o, X.base.get? b = some o → s.heap.get? b = some o ∧ H b = none := fun b o e =>
  ⟨I.base.keep b o (I.ok.bs b o e).1 (I.ok.bs b o e).2 (I.ok.nofr e) (I.ok.noex b o e), I.base.free b o (I.ok.bs b o e).1 (I.ok.bs b o e).2 (I.ok.noex b o e)⟩
theorem Inv.bk (I : Inv X pins σ H s) : ∀ b o, X.base.get? b = some o → s.heap.get? b = some o := fun b o e => (I.bs b o e).1
theorem Inv.mod (I : Inv X pins σ H s) : Mod X.K X.mg X.base := I.ok.mod
theorem Inv.kIn (I : Inv X pins σ H s) : X.K.In s.heap := I.ok.mod.kin.keeps I.bk
theorem Inv.nolimit (I : Inv X pins σ H s) : s.heap.NoLimit := I.ok.mod.nolimit.keeps I.bk
theorem Inv.fr (I : Inv X pins σ H s) : ∃ m, Fr X.base X.env.locals s.heap m :=
  let ⟨m, hn, _⟩ := I.loc
  ⟨m, hn, I.bk, Nat.le_trans I.ok.bsz I.ok.above⟩
theorem Inv.lt (I : Inv X pins σ H s) : X.env.locals < s.heap.objs.size := let ⟨_, hn, _⟩ := I.loc; hn.lt
theorem Inv.sz (I : Inv X pins σ H s) : X.s₀.heap.objs.size ≤ s.heap.objs.size := Nat.le_trans I.ok.above (Nat.le_of_lt I.lt)
theorem Inv.nofs (I : Inv X pins σ H s) {a : Addr} (h : s.heap.objs.size ≤ a) : a ∉ X.fs := fun hb => by
  obtain ⟨_, o, ho, _⟩ := I.ok.funs.mem hb
  exact absurd (Nat.lt_of_lt_of_le (Heap.lt_size ho) (Nat.le_trans I.sz h)) (Nat.lt_irrefl _)
theorem Inv.cne (I : Inv X pins σ H s) : ∀ x c, X.env.cells.lookup x = some c → c ≠ X.env.locals := fun x c e z => by
  obtain ⟨v, o, ho, hd⟩ := I.cell x c e
  obtain ⟨m, ⟨o', es, ep, ho', hd', _⟩, _⟩ := I.loc
  rw [z, ho'] at ho; cases ho; rw [hd'] at hd; cases hd
theorem Inv.funs (I : Inv X pins σ H s) : s.heap.FunFrames X.base X.outer := by
  have all : ∀ (l : List Env), (∀ b ∈ frs l, b ∈ X.fs) → X.s₀.heap.FunFrames X.base l → s.heap.FunFrames X.base l := by
    intro l
    induction l with
    | nil => intro _ _; trivial
    | cons env r ih =>
      intro hs hl
      obtain ⟨hk, ⟨L, o, hf, hn, ho, hd⟩, hr⟩ := hl
      have hL : L ∈ X.fs := hs L (by unfold frs; rw [List.filterMap_cons, hf]; exact List.mem_cons_self)
      obtain ⟨sl, e⟩ := I.base.slot L o ho (I.ok.frf L hL) hL fun z => I.ok.exfs L z hL
      exact ⟨hk, ⟨L, _, hf, hn, e, hd⟩, ih (fun b hb => hs b (by unfold frs; rw [List.filterMap_cons, hf]; exact List.mem_cons_of_mem _ hb)) hr⟩
  exact all X.outer (fun _ hb => hb) I.ok.funs

theorem Inv.stack (I : Inv X pins σ H s) : s.heap.FunFrames X.base X.stack := by
  rcases I.ok.stk with e | ⟨e, hf⟩
  · rw [e]; exact I.funs
  · rw [e]
    obtain ⟨m, hn, _⟩ := I.loc
    refine .cons (by rw [I.ok.kind]; decide) hf hn ?_ I.funs
    exact Heap.get?_none_of_le (Nat.le_trans I.ok.bsz I.ok.above)
theorem Inv.stkSub (I : Inv X pins σ H s) : ∀ b ∈ frs X.stack, b ∈ X.env.locals :: X.fs := fun b hb => by
  rcases I.ok.stk with e | ⟨e, hf⟩
  · rw [e] at hb; exact List.mem_cons_of_mem _ hb
  · rw [e] at hb
    unfold frs at hb
    rw [List.filterMap_cons, hf] at hb
    exact hb
theorem Inv.stkFree (I : Inv X pins σ H s) : ∀ b ∈ frs X.stack, H b = none := fun b hb => by
  rcases List.mem_cons.mp (I.stkSub b hb) with e | hb
  · rw [e]; exact I.free
  · obtain ⟨_, o, ho, _⟩ := I.ok.funs.mem hb
    exact I.base.free b o ho (I.ok.frf b hb) fun z => I.ok.exfs b z hb

theorem Inv.step {g' : Array GenState} {t' : Nat} {d' : Drawn} {ch : List Addr} (I : Inv X pins σ H s)
    (hch : ∀ b ∈ ch, (b ∈ X.ex ∨ X.s₀.heap.objs.size ≤ b) ∧ b ≠ X.env.locals ∧ (∀ x c, X.env.cells.lookup x = some c → c ≠ b) ∧ ∀ p ∈ X.pn ++ pins, p.1 ≠ b)
    (keep : ∀ b o, b ≠ X.env.locals → b ∉ X.fs → b ∉ ch → s.heap.get? b = some o → H b = none → h'.get? b = some o)
    (slot : ∀ b o, b ≠ X.env.locals → b ∈ X.fs → b ∉ ch → s.heap.get? b = some o → H b = none → ∃ sl, h'.get? b = some { o with slots := sl }) (free : ∀ b o, b ∉ ch → s.heap.get? b = some o → H b = none → H' b = none)
    (there : ∀ b o, b ∉ ch → s.heap.get? b = some o → ∃ o', h'.get? b = some o')
    (tups : ∀ b xs, H b = some (.tup xs) → H' b = some (.tup xs)) (frzs : ∀ b o u, H b = some (.frz o u) → H' b = some (.frz o u)) (tbls : ∀ b ps, H b = some (.tbl ps) → ∃ more, H' b = some (.tbl (ps ++ more)))
    (ns : ∀ m, s.heap.Ns X.env.locals m → h'.Ns X.env.locals m) (hok : HOk X.prog X.w H' h') (hg : AllBare g') :
    Inv X pins σ H' { s with heap := h', gens := g', drawn := d', toks := t' } := by
  have neL : ∀ b o, X.s₀.heap.get? b = some o → b ≠ X.env.locals := fun b o e => Nat.ne_of_lt (Nat.lt_of_lt_of_le (Heap.lt_size e) I.ok.above)
  have neC : ∀ b o, X.s₀.heap.get? b = some o → b ∉ X.ex → b ∉ ch := fun b o e hx hb => by
    rcases (hch b hb).1 with z | z
    · exact hx z
    · exact absurd (Nat.lt_of_lt_of_le (Heap.lt_size e) z) (Nat.lt_irrefl _)
  have cellK : ∀ x c, X.env.cells.lookup x = some c → ∀ v, s.heap.IsCell c v → h'.IsCell c v := fun x c e v ⟨o, ho, hd⟩ => by
    have nch : c ∉ ch := fun z => (hch c z).2.2.1 x c e rfl
    by_cases hc : c ∈ X.fs
    · obtain ⟨sl, q⟩ := slot c o (I.cne x c e) hc nch ho (I.freeC x c e)
      exact ⟨_, q, hd⟩
    · exact ⟨o, keep c o (I.cne x c e) hc nch ho (I.freeC x c e), hd⟩
  refine ⟨I.ok, I.os, hg, ⟨fun b o e n hb hx => ?_, fun b o e n hb hx => ?_, fun b o e n hx => ?_, fun b o e hx => ?_, fun b xs e => tups b xs (I.base.tups b xs e), fun b o xs e => frzs b o xs (I.base.frzs b o xs e), fun b ps e => ?_⟩, ?_, fun x c e => ?_, ?_, fun x c e => ?_, fun p hp => ?_, hok, I.len⟩
  · exact keep b o (neL b o e) hb (neC b o e hx) (I.base.keep b o e n hb hx) (I.base.free b o e n hx)
  · obtain ⟨sl, e1⟩ := I.base.slot b o e n hb hx
    obtain ⟨sl', e2⟩ := slot b _ (neL b o e) hb (neC b o e hx) e1 (I.base.free b o e n hx)
    exact ⟨sl', e2⟩
  · obtain ⟨o', e1⟩ := I.base.there b o e hx
    exact free b o' (neC b o e hx) e1 (I.base.free b o e n hx)
  · obtain ⟨o', e1⟩ := I.base.there b o e hx
    exact there b o' (neC b o e hx) e1
  · obtain ⟨m1, e1⟩ := I.base.tbls b ps e
    obtain ⟨m2, e2⟩ := tbls b _ e1
    exact ⟨m1 ++ m2, by rw [e2, Array.append_assoc]⟩
  · obtain ⟨m, hn, hl⟩ := I.loc
    refine ⟨m, ns m hn, fun i x v e1 e2 e3 => ?_⟩
    obtain ⟨u, r, l⟩ := hl i x v e1 e2 e3
    refine ⟨u, r, ?_⟩
    rcases l with l | ⟨k, c, e, z⟩
    · exact .inl l
    · exact .inr ⟨k, c, e, cellK x c e _ z⟩
  · obtain ⟨v, z⟩ := I.cell x c e
    exact ⟨v, cellK x c e v z⟩
  · obtain ⟨m, ⟨o, _, _, ho, _⟩, _⟩ := I.loc
    exact free _ o (fun z => (hch _ z).2.1 rfl) ho I.free
  · obtain ⟨v, o, ho, hd⟩ := I.cell x c e
    exact free c o (fun z => (hch c z).2.2.1 x c e rfl) ho (I.freeC x c e)
  · obtain ⟨e, n, ne, nf, d⟩ := I.pin p hp
    have nch : p.1 ∉ ch := fun z => (hch p.1 z).2.2.2 p hp rfl
    exact ⟨keep p.1 p.2 ne nf nch e n, free p.1 p.2 nch e n, ne, nf, d⟩
theorem Inv.un {t' : Nat} (I : Inv X pins σ H s) (u : Un X.fs [] H H' s.heap h') (hok : HOk X.prog X.w H' h') : Inv X pins σ H' { s with heap := h', toks := t' } := by
  obtain ⟨m, ⟨o, es, ep, ho, r⟩, _⟩ := id I.loc
  obtain ⟨sl, hL⟩ := u.any ho I.free (by simp)
  exact I.step (g' := s.gens) (d' := s.drawn) (ch := []) (fun _ z => nomatch z) (fun b o _ hb _ e n => u.keep b o e n hb (by simp)) (fun b o _ hb _ e n => u.slot b o e n hb (by simp)) (fun b o _ e n => u.free b o e n (by simp)) (fun b o _ e => u.there b o e (by simp)) u.tups u.frzs u.tbls (fun m' hm => by
    obtain ⟨o', es', ep', ho', r'⟩ := hm
    rw [ho] at ho'; cases ho'
    exact ⟨_, es', ep', hL, r'⟩) hok I.bare
theorem Inv.call {g' : Array GenState} {t' : Nat} {d' : Drawn} {ch : List Addr} (I : Inv X pins σ H s) (u : Un (frs X.stack) ch H H' s.heap h') (hok : HOk X.prog X.w H' h') (hg : AllBare g')
    (hch : ∀ b ∈ ch, (b ∈ X.ex ∨ X.s₀.heap.objs.size ≤ b) ∧ b ≠ X.env.locals ∧ (∀ x c, X.env.cells.lookup x = some c → c ≠ b) ∧ ∀ p ∈ X.pn ++ pins, p.1 ≠ b) :
    Inv X pins σ H' { s with heap := h', gens := g', drawn := d', toks := t' } := by
  obtain ⟨m, ⟨o, es, ep, ho, r⟩, _⟩ := id I.loc
  obtain ⟨sl, hL⟩ := u.any ho I.free fun z => (hch _ z).2.1 rfl
  exact I.step (ch := ch) hch (fun b o hL hb hc e n => u.keep b o e n (fun z => (List.mem_cons.mp (I.stkSub b z)).elim hL hb) hc) (fun b o _ _ hc e n => u.any e n hc) (fun b o hc e n => u.free b o e n hc) (fun b o hc e => u.there b o e hc) u.tups u.frzs u.tbls (fun m' hm => by
    obtain ⟨o', es', ep', ho', r'⟩ := hm
    rw [ho] at ho'; cases ho'
    exact ⟨_, es', ep', hL, r'⟩) hok hg
theorem Inv.turned {t' : Nat} {it : Addr} (I : Inv X pins σ H s) (k : ∀ b o, b ≠ it → s.heap.get? b = some o → h'.get? b = some o) (hn : H it = none) (hL : it ≠ X.env.locals)
    (h1 : it ∈ X.ex ∨ X.s₀.heap.objs.size ≤ it) (h2 : ∀ x c, X.env.cells.lookup x = some c → c ≠ it) (h3 : ∀ p ∈ X.pn ++ pins, p.1 ≠ it) : Inv X pins σ H { s with heap := h', toks := t' } := by
  have nit : ∀ b u, H b = some u → b ≠ it := fun b u e z => by rw [z, hn] at e; cases e
  refine I.step (g' := s.gens) (d' := s.drawn) (ch := [it]) (fun b hb => ?_) (fun b o _ _ hc e _ => k b o (fun z => hc (by simp [z])) e) (fun b o _ _ hc e _ => ⟨o.slots, k b o (fun z => hc (by simp [z])) e⟩) (fun _ _ _ _ n => n)
    (fun b o hc e => ⟨o, k b o (fun z => hc (by simp [z])) e⟩) (fun _ _ e => e) (fun _ _ _ e => e) (fun b ps e => ⟨#[], by rw [e]; simp⟩) (fun m hm => ?_) (fun b u e => ?_) I.bare
  · have e : b = it := by simpa using hb
    subst e
    exact ⟨h1, hL, h2, h3⟩
  · obtain ⟨o, es, ep, ho, r⟩ := hm
    exact ⟨o, es, ep, k _ o (Ne.symm hL) ho, r⟩
  · refine (I.hok b u e).stay (fun c v hc q => k c v ?_ q) (fun _ q => q) fun _ _ q => q
    rcases hc with z | z
    · rw [z]; exact nit b u e
    · exact nit c _ z
theorem Inv.tok (I : Inv X pins σ H s) (t : Nat) : Inv X pins σ H { s with toks := t } := I.un (h' := s.heap) (t' := t) Un.refl I.hok
theorem Inv.kept {t' : Nat} (I : Inv X pins σ H s) (k : ∀ b u, s.heap.get? b = some u → h'.get? b = some u) : Inv X pins σ H { s with heap := h', toks := t' } := I.un (Un.kept k) (I.hok.kept k)
theorem Inv.laid {a : Addr} {o : HO} {t' : Nat} (I : Inv X pins σ H s) (k : ∀ b u, s.heap.get? b = some u → h'.get? b = some u) (hp : s.heap.objs.size ≤ a) (new : ObjOk X.prog X.w (upd H a o) h' a o) :
    Inv X pins σ (upd H a o) { s with heap := h', toks := t' } := I.un (Un.laid k hp (I.hok.fresh hp)) (I.hok.laid k hp new)
theorem Inv.write {x e : Addr} {o : HO} {t' : Nat} (I : Inv X pins σ H s) (mu : Mut (H x)) (he : e = x ∨ H e = some (.own x)) (k : ∀ b u, b ≠ e → s.heap.get? b = some u → h'.get? b = some u) (heo : ∃ u, h'.get? e = some u)
    (new : ObjOk X.prog X.w (upd H x o) h' x o) : Inv X pins σ (upd H x o) { s with heap := h', toks := t' } := I.un (Un.write mu he k heo) (I.hok.write mu he k heo new)
theorem Inv.pins_of {pins' : List (Addr × Obj)} (I : Inv X pins σ H s) (h : ∀ p ∈ pins', s.heap.get? p.1 = some p.2 ∧ H p.1 = none ∧ p.1 ≠ X.env.locals ∧ p.1 ∉ X.fs ∧ ∀ v, p.2.data ≠ .cell v) : Inv X pins' σ H s :=
  ⟨I.ok, I.os, I.bare, I.base, I.loc, I.cell, I.free, I.freeC, fun p hp => (List.mem_append.mp hp).elim (fun z => I.pin p (List.mem_append_left _ z)) (h p), I.hok, I.len⟩

theorem nodup_ix {N : List Str} (hN : N.Nodup) {i j : Nat} {x : Str} (a : N[i]? = some x) (b : N[j]? = some x) : i = j := by
  obtain ⟨h1, e1⟩ := List.getElem?_eq_some_iff.mp a
  obtain ⟨h2, e2⟩ := List.getElem?_eq_some_iff.mp b
  exact (List.getElem_inj hN).mp (e1.trans e2.symm)

theorem store_ok2 {M : Model} {A : Around} {E : Value → Shared → Prop} {i : Nat} {x : Str} {v : V} {u : Value} {Q : Unit → Shared → Prop} (I : Inv X pins σ H s) (hN : X.N.Nodup) (hi : X.N[i]? = some x) (hx : Loc X.env.scope x) (r : RelV v u)
    (h : ∀ s', Inv X pins (σ.set i (some v)) H s' → (∃ a, Heap.SameBut a s.heap s'.heap ∧ (a = X.env.locals ∨ X.env.cells.lookup x = some a)) → Q () s') (hf : X.fn x = true ∨ X.env.scope.names.lookup x = some .local := by first | exact .inl rfl | exact .inr rfl | assumption) : wpAny M A (storeName X.env x u) Q E s := by
  obtain ⟨m, hn, hl⟩ := id I.loc
  have hcls : (X.env.scope.kind == .class || (X.env.scope.kind == .module && X.env.locals != X.env.globals)) = false := by rw [I.ok.kind]; rfl
  have hiσ : i < σ.length := by rw [I.len]; exact (List.getElem?_eq_some_iff.mp hi).1
  have cne := I.cne
  have tracked : ∀ {a : Addr} {h' : Heap}, (∃ o, s.heap.get? a = some o ∧ H a = none) → Heap.SameBut a s.heap h' → HOk X.prog X.w H h' := fun {a h'} ha hs b ob e => by
    obtain ⟨_, _, hfree⟩ := ha
    refine (I.hok b ob e).stay (fun c w' hc q => (hs.2 c ?_).trans q) (fun _ q => q) fun _ _ q => q
    rintro rfl
    rcases hc with rfl | hc
    · rw [hfree] at e; cases e
    · rw [hfree] at hc; cases hc
  rcases hx with hk | hk
  · refine wpAny_storeName_local hk hn (fun h' hn' hs => ?_) hcls
    obtain ⟨oL, _, _, hoL, _⟩ := id hn
    refine h _ ⟨I.ok, I.os, I.bare, ⟨fun b o e n hb hx => ?_, fun b o e n hb hx => ?_, I.base.free, fun b o e hx => ?_, I.base.tups, I.base.frzs, I.base.tbls⟩, ⟨_, hn', fun j y v' e1 e2 e3 => ?_⟩, fun y c e => ?_, I.free, I.freeC, fun p hp => ?_, tracked ⟨oL, hoL, I.free⟩ hs, by simpa using I.len⟩ ⟨_, hs, .inl rfl⟩
    · exact (hs.2 b (Nat.ne_of_lt (Nat.lt_of_lt_of_le (Heap.lt_size e) I.ok.above))).trans (I.base.keep b o e n hb hx)
    · obtain ⟨sl, e1⟩ := I.base.slot b o e n hb hx
      exact ⟨sl, (hs.2 b (Nat.ne_of_lt (Nat.lt_of_lt_of_le (Heap.lt_size e) I.ok.above))).trans e1⟩
    · obtain ⟨o', e1⟩ := I.base.there b o e hx
      exact ⟨o', (hs.2 b (Nat.ne_of_lt (Nat.lt_of_lt_of_le (Heap.lt_size e) I.ok.above))).trans e1⟩
    · by_cases hj : j = i
      · subst hj
        rw [hi] at e1; cases e1
        rw [List.getElem?_set_self hiσ] at e2
        cases e2
        exact ⟨u, r, .inl ⟨hk, by simp⟩⟩
      · rw [List.getElem?_set_ne (Ne.symm hj)] at e2
        obtain ⟨u', r', q⟩ := hl j y v' e1 e2 e3
        refine ⟨u', r', ?_⟩
        rcases q with ⟨k, e⟩ | ⟨k, c, e, z⟩
        · refine .inl ⟨k, ?_⟩
          have : y ≠ x := fun e => hj (nodup_ix hN e1 (e ▸ hi))
          simp [this, e]
        · exact .inr ⟨k, c, e, z.sameBut hs (cne y c e)⟩
    · obtain ⟨w', z⟩ := I.cell y c e
      exact ⟨w', z.sameBut hs (cne y c e)⟩
    · obtain ⟨e, n, ne, nf, d⟩ := I.pin p hp
      exact ⟨(hs.2 p.1 ne).trans e, n, ne, nf, d⟩
  · have hfn : X.fn x = true := by
      rcases hf with z | z
      · exact z
      · rw [z] at hk; cases hk
    obtain ⟨c, hc⟩ := I.ok.has x (.inl hk)
    obtain ⟨w', z⟩ := I.cell x c hc
    refine wpAny_storeName_cell I.ok.kind hk hc z (fun h' hc' hs => ?_)
    obtain ⟨oc, hoc, hocd⟩ := id z
    refine h { s with heap := h' } ⟨I.ok, I.os, I.bare, ⟨fun b o e n hb hx => ?_, fun b o e n hb hx => ?_, I.base.free, fun b o e hx => ?_, I.base.tups, I.base.frzs, I.base.tbls⟩, ⟨m, hn.sameBut hs (Ne.symm (cne x c hc)), fun j y v' e1 e2 e3 => ?_⟩, fun y c' e => ?_, I.free, I.freeC, fun p hp => ?_, tracked ⟨oc, hoc, I.freeC x c hc⟩ hs, by simpa using I.len⟩ ⟨c, hs, .inr hc⟩
    · exact (hs.2 b (Nat.ne_of_lt (Nat.lt_of_lt_of_le (Heap.lt_size e) (I.ok.cab x c hfn hc)))).trans (I.base.keep b o e n hb hx)
    · obtain ⟨sl, e1⟩ := I.base.slot b o e n hb hx
      exact ⟨sl, (hs.2 b (Nat.ne_of_lt (Nat.lt_of_lt_of_le (Heap.lt_size e) (I.ok.cab x c hfn hc)))).trans e1⟩
    · obtain ⟨o', e1⟩ := I.base.there b o e hx
      exact ⟨o', (hs.2 b (Nat.ne_of_lt (Nat.lt_of_lt_of_le (Heap.lt_size e) (I.ok.cab x c hfn hc)))).trans e1⟩
    · by_cases hj : j = i
      · subst hj
        rw [hi] at e1; cases e1
        rw [List.getElem?_set_self hiσ] at e2
        cases e2
        exact ⟨u, r, .inr ⟨.inl hk, c, hc, hc'⟩⟩
      · rw [List.getElem?_set_ne (Ne.symm hj)] at e2
        obtain ⟨u', r', q⟩ := hl j y v' e1 e2 e3
        refine ⟨u', r', ?_⟩
        rcases q with q | ⟨k, c', e, z'⟩
        · exact .inl q
        · refine .inr ⟨k, c', e, z'.sameBut hs ?_⟩
          rintro rfl
          exact hj (nodup_ix hN e1 (I.ok.inj _ _ _ e hc ▸ hi))
    · by_cases hcc : c' = c
      · subst hcc; exact ⟨_, hc'⟩
      · obtain ⟨w2, z2⟩ := I.cell y c' e
        exact ⟨w2, z2.sameBut hs hcc⟩
    · obtain ⟨e, n, ne, nf, d⟩ := I.pin p hp
      refine ⟨(hs.2 p.1 ?_).trans e, n, ne, nf, d⟩
      intro q
      rw [q, hoc] at e
      have q' : oc = p.2 := Option.some.inj e
      exact d w' (by rw [← q']; exact hocd)
theorem store_ok {M : Model} {A : Around} {E : Value → Shared → Prop} {i : Nat} {x : Str} {v : V} {u : Value} {Q : Unit → Shared → Prop} (I : Inv X pins σ H s) (hN : X.N.Nodup) (hi : X.N[i]? = some x) (hx : Loc X.env.scope x) (r : RelV v u)
    (h : ∀ s', Inv X pins (σ.set i (some v)) H s' → Q () s') (hf : X.fn x = true ∨ X.env.scope.names.lookup x = some .local := by first | exact .inl rfl | exact .inr rfl | assumption) : wpAny M A (storeName X.env x u) Q E s :=
  store_ok2 I hN hi hx r (fun s' I' _ => h s' I') hf
theorem Inv.call' {s' : Shared} {ch : List Addr} (I : Inv X pins σ H s) (ho : s'.os = s.os) (u : Un (frs X.stack) ch H H' s.heap s'.heap) (hok : HOk X.prog X.w H' s'.heap) (hg : AllBare s'.gens)
    (hch : ∀ b ∈ ch, (b ∈ X.ex ∨ X.s₀.heap.objs.size ≤ b) ∧ b ≠ X.env.locals ∧ (∀ x c, X.env.cells.lookup x = some c → c ≠ b) ∧ ∀ p ∈ X.pn ++ pins, p.1 ≠ b) : Inv X pins σ H' s' := by
  obtain ⟨h', g', d', t', o'⟩ := s'
  have e : o' = s.os := ho
  subst e
  exact I.call (g' := g') (t' := t') (d' := d') u hok hg hch
end

abbrev XK := Value → Option Addr → Hp → Prop
abbrev St := List (Option V)
abbrev VK := V → Hp → Prop
abbrev TE := St → Hp → VK → Prop
abbrev TT := St → Hp → (Bool → Hp → Prop) → Prop
abbrev TA := St → Hp → (List V → Hp → Prop) → Prop
structure Ends where
  nx : St → Hp → Prop
  rt : VK
  bk : St → Hp → Prop := fun _ _ => False
  ct : St → Hp → Prop := fun _ _ => False
abbrev TS := Ends → St → Hp → Prop

def EP (X : Cx) (pins : List (Addr × Obj)) (σ : St) (Q : VK) (u : Value) (s' : Shared) : Prop := ∃ v H', Inv X pins σ H' s' ∧ RelV v u ∧ Q v H'
def TP (X : Cx) (pins : List (Addr × Obj)) (σ : St) (Q : Bool → Hp → Prop) (b : Bool) (s' : Shared) : Prop := ∃ H', Inv X pins σ H' s' ∧ Q b H'
def AP (X : Cx) (pins : List (Addr × Obj)) (σ : St) (Q : List V → Hp → Prop) (us : List Value) (s' : Shared) : Prop := ∃ vs H', Inv X pins σ H' s' ∧ Vals vs us ∧ Q vs H'
def SP (X : Cx) (pins : List (Addr × Obj)) (D : Ends) (f : Flow) (s' : Shared) : Prop :=
  match f with
  | .next => ∃ σ' H', Inv X pins σ' H' s' ∧ D.nx σ' H'
  | .brk => ∃ σ' H', Inv X pins σ' H' s' ∧ D.bk σ' H'
  | .cont => ∃ σ' H', Inv X pins σ' H' s' ∧ D.ct σ' H'
  | .ret u => ∃ v σ' H', Inv X pins σ' H' s' ∧ RelV v u ∧ D.rt v H'

def PE (X : Cx) (e : Expr) (t : TE) : Prop :=
  ∀ (pins : List (Addr × Obj)) (s : Shared) (σ : St) (H : Hp) (Q : VK), Inv X pins σ H s → t σ H Q → wpAny (model X.prog X.w) X.A (eval e X.env) (EP X pins σ Q) X.xe s
def PT (X : Cx) (e : Expr) (t : TT) : Prop :=
  ∀ (pins : List (Addr × Obj)) (s : Shared) (σ : St) (H : Hp) (Q : Bool → Hp → Prop), Inv X pins σ H s → t σ H Q → wpAny (model X.prog X.w) X.A (isTrue e X.env (eval e X.env)) (TP X pins σ Q) X.xe s
def PW (X : Cx) (e : Expr) (t : TT) : Prop :=
  ∀ (whole : Sem Value) (pins : List (Addr × Obj)) (s : Shared) (σ : St) (H : Hp) (Q : Bool → Hp → Prop), Inv X pins σ H s → t σ H Q → wpAny (model X.prog X.w) X.A (isTrue e X.env whole) (TP X pins σ Q) X.xe s
theorem PW.pt {X : Cx} {e : Expr} {t : TT} (h : PW X e t) : PT X e t := h _
def PA (X : Cx) (es : List Expr) (t : TA) : Prop :=
  ∀ (pos : Pos) (pins : List (Addr × Obj)) (s : Shared) (σ : St) (H : Hp) (Q : List V → Hp → Prop), Inv X pins σ H s → t σ H Q → wpAny (model X.prog X.w) X.A (spliced (backTo pos (starEach es X.env))) (AP X pins σ Q) X.xe s
def PS (X : Cx) (st : Stmt) (t : TS) : Prop :=
  ∀ (pins : List (Addr × Obj)) (s : Shared) (σ : St) (H : Hp) (D : Ends), Inv X pins σ H s → t D σ H → wpAny (model X.prog X.w) X.A (exec st X.env) (SP X pins D) X.xe s
def PSs (X : Cx) (st : List Stmt) (t : TS) : Prop :=
  ∀ (pins : List (Addr × Obj)) (s : Shared) (σ : St) (H : Hp) (D : Ends), Inv X pins σ H s → t D σ H → wpAny (model X.prog X.w) X.A (execs st X.env) (SP X pins D) X.xe s
theorem thn {α : Type} {t : Sem α} {Q Q' : α → Shared → Prop} {M : Model} {A : Around} {E : Value → Shared → Prop} {s : Shared} (h : wpAny M A t Q E s) (hQ : ∀ a s, Q a s → Q' a s) : wpAny M A t Q' E s := wpAny_mono h hQ fun _ _ x => x
end L2

namespace L2
open PySem PySem.Spec PyProof.Rows
section
variable {X : Cx}

def tVar (i : Nat) : TE := fun σ H Q => ∃ v, σ[i]? = some (some v) ∧ Q v H
def tC (v : V) : TE := fun _ H Q => Q v H
theorem pe_var {i : Nat} {x : Str} {pos : Pos} (hN : X.N[i]? = some x) (hv : Vis X.env.scope x) (hd : (x == ("__debug__" : Str)) = false := by decide) (hcd : (x == ("__classdict__" : Str)) = false := by decide) : PE X (.Name x pos) (tVar i) := by
  intro pins s σ H Q I h
  obtain ⟨v, e, h⟩ := h
  obtain ⟨m, hn, hl⟩ := I.loc
  obtain ⟨u, r, l⟩ := hl i x v hN e hv
  have fin : EP X pins σ Q u s := ⟨v, H, I, r, h⟩
  rcases l with ⟨hk, hm⟩ | ⟨hk, c, hc, hcell⟩
  · exact wpAny_Name (wpAny_loadName_local I.ok.kind hk hn hm fin) hd
  · rcases hk with hk | hk
    · exact wpAny_Name (wpAny_loadName_cell I.ok.kind hk hc hcell fin) hd
    · exact wpAny_Name (wpAny_loadName_free I.ok.kind hk hc hcell fin hcd) hd
theorem pe_int {i j pos} : PE X (.Constant (.int i) j pos) (tC (.int i)) := fun _ _ _ H _ I h => wpAny_Constant_int ⟨.int i, H, I.tok _, ⟨_, rfl⟩, h⟩
theorem pe_bl {b j pos} : PE X (.Constant (.bool b) j pos) (tC (.bl b)) := fun _ _ _ H _ I h => Constant_bool ⟨.bl b, H, I, rfl, h⟩
theorem pe_non {j pos} : PE X (.Constant .none j pos) (tC .non) := fun _ _ _ H _ I h => Constant_none ⟨.non, H, I, rfl, h⟩
theorem pe_str {x j pos} : PE X (.Constant (.str x) j pos) (tC (.str x)) := fun _ _ _ H _ I h => Calls.Constant_str ⟨.str x, H, I.tok _, ⟨_, rfl⟩, h⟩

def Gl (X : Cx) (x : Str) : Prop := X.env.kindOf x = some .globalImplicit
theorem ld_glob {E : Value → Shared → Prop} {pins : List (Addr × Obj)} {s : Shared} {σ : St} {H : Hp} {x : Str} {u : Value} {pos : Pos} {Q : Value → Shared → Prop} (I : Inv X pins σ H s) (hg : Gl X x) (hm : X.mg x = some u) (h : Q u s)
    (hd : (x == ("__debug__" : Str)) = false := by decide) : wpAny (model X.prog X.w) X.A (eval (.Name x pos) X.env) Q E s :=
  Calls.Name_function_global I.ok.kind hg (Calls.loadGlobal_global (by rw [I.ok.glob]; exact I.mod.glob.keeps I.bk) hm h) hd
theorem ld_blt {E : Value → Shared → Prop} {pins : List (Addr × Obj)} {s : Shared} {σ : St} {H : Hp} {x : Str} {u : Value} {pos : Pos} {Q : Value → Shared → Prop} (I : Inv X pins σ H s) (hg : Gl X x) (hm : X.mg x = none) (hv : bootBuiltins x = some u) (h : Q u s)
    (hn : x ≠ "__name__" := by decide) (hd : (x == ("__debug__" : Str)) = false := by decide) : wpAny (model X.prog X.w) X.A (eval (.Name x pos) X.env) Q E s := by
  obtain ⟨mb, h1, h2⟩ := I.mod.blt
  exact Calls.Name_function_global I.ok.kind hg (Calls.loadGlobal_builtin (by rw [I.ok.glob]; exact I.mod.glob.keeps I.bk) hm (by rw [I.ok.blt]; exact h1.keeps I.bk) ((h2 x hn).trans hv) h) hd
theorem pe_glob {x : Str} {v : V} {u : Value} {pos : Pos} (hg : Gl X x) (hm : X.mg x = some u) (r : RelV v u) (hd : (x == ("__debug__" : Str)) = false := by decide) : PE X (.Name x pos) (tC v) :=
  fun _ _ _ H _ I h => ld_glob I hg hm ⟨v, H, I, r, h⟩ hd
theorem pe_bltn {x : Str} {v : V} {u : Value} {pos : Pos} (hg : Gl X x) (hm : X.mg x = none) (hv : bootBuiltins x = some u) (r : RelV v u) (hn : x ≠ "__name__" := by decide) (hd : (x == ("__debug__" : Str)) = false := by decide) : PE X (.Name x pos) (tC v) :=
  fun _ _ _ H _ I h => ld_blt I hg hm hv ⟨v, H, I, r, h⟩ hn hd

variable {a b : Expr} {ta tb : TE} {pos : Pos}
def PC (X : Cx) (op : CmpOp) (a b : Expr) (t : TE) : Prop :=
  ∀ (pins : List (Addr × Obj)) (s : Shared) (σ : St) (H : Hp) (Q : VK), Inv X pins σ H s → t σ H Q →
    wpAny (model X.prog X.w) X.A (eval a X.env) (fun v s₁ => wpAny (model X.prog X.w) X.A (eval b X.env) (fun u s₂ => wpAny (model X.prog X.w) X.A (compareOp op v u) (EP X pins σ Q) X.xe s₂) X.xe s₁) X.xe s
theorem nobehind (b : Expr) {op : CmpOp} (h : op ≠ .In) (h2 : op ≠ .NotIn) : behindInMarks op b = false := by
  have e1 : (op == CmpOp.In) = false := by cases op <;> first | rfl | exact absurd rfl h
  have e2 : (op == CmpOp.NotIn) = false := by cases op <;> first | rfl | exact absurd rfl h2
  cases b <;> simp [behindInMarks, e1, e2]
def tB (t : TE) : TT := fun σ H Q => t σ H fun x H1 => ∃ c, x = .bl c ∧ Q c H1
theorem pt_cmp {op : CmpOp} {t : TE} (h : PC X op a b t) (h1 : behindInMarks op b = false := by first | exact nobehind _ (by decide) (by decide) | rfl) : PT X (.Compare a [op] [b] pos) (tB t) := by
  intro pins s σ H Q I hw
  refine wpAny_isTrue_Compare1 (thn (h pins s σ H _ I hw) fun v s1 h1 => thn h1 fun u s2 h2 => thn h2 fun c s3 ⟨x, H1, I1, r1, q1⟩ => ?_) h1
  obtain ⟨d, rfl, q⟩ := q1
  cases r1
  exact wpAny_truthy_bool ⟨H1, I1, q⟩
theorem pt_val {e : Expr} {t : TE} (h : PE X e t) (he : ∀ whole, isTrue e X.env whole = (do let v ← whole; standAt e.pos; holding [v] (truthy v)) := by intro _; rfl) : PT X e (tB t) := by
  intro pins s σ H Q I hw
  refine isTrue_plain (thn (h pins s σ H _ I hw) fun v s1 ⟨x, H1, I1, r1, q1⟩ => ?_) (he _)
  obtain ⟨d, rfl, q⟩ := q1
  cases r1
  exact wpAny_truthy_bool ⟨H1, I1, q⟩

variable {tA tB' : TT} {rest : List Expr}
def tAnd (t u : TT) : TT := fun σ H Q => t σ H fun c H1 => if c = true then u σ H1 Q else Q false H1
def tOr (t u : TT) : TT := fun σ H Q => t σ H fun c H1 => if c = true then Q true H1 else u σ H1 Q
def tNot (t : TT) : TT := fun σ H Q => t σ H fun c H1 => Q (!c) H1
theorem pw_and1 (ha : PT X a tA) : PW X (.BoolOp .And [a] pos) tA := by
  intro wh pins s σ H Q I h
  refine isTrue_and (thn (ha pins s σ H Q I h) fun c s1 e => ?_)
  cases c with
  | true => exact isTrue_and_nil e
  | false => exact e
theorem pw_or1 (ha : PT X a tA) : PW X (.BoolOp .Or [a] pos) tA := by
  intro wh pins s σ H Q I h
  refine isTrue_or (thn (ha pins s σ H Q I h) fun c s1 e => ?_)
  cases c with
  | false => exact isTrue_or_nil e
  | true => exact e
theorem pw_and (ha : PT X a tA) (hb : PW X (.BoolOp .And (b :: rest) pos) tB') : PW X (.BoolOp .And (a :: b :: rest) pos) (tAnd tA tB') := by
  intro wh pins s σ H Q I h
  refine isTrue_and (thn (ha pins s σ H _ I h) fun c s1 ⟨H1, I1, q1⟩ => ?_)
  cases c with
  | true => exact hb wh pins s1 σ H1 Q I1 q1
  | false => exact ⟨H1, I1, q1⟩
theorem pw_or (ha : PT X a tA) (hb : PW X (.BoolOp .Or (b :: rest) pos) tB') : PW X (.BoolOp .Or (a :: b :: rest) pos) (tOr tA tB') := by
  intro wh pins s σ H Q I h
  refine isTrue_or (thn (ha pins s σ H _ I h) fun c s1 ⟨H1, I1, q1⟩ => ?_)
  cases c with
  | true => exact ⟨H1, I1, q1⟩
  | false => exact hb wh pins s1 σ H1 Q I1 q1
theorem pt_not (ha : PT X a tA) : PT X (.UnaryOp .Not a pos) (tNot tA) := by
  intro pins s σ H Q I h
  exact isTrue_not (ha pins s σ H (fun c H1 => Q (!c) H1) I h)
def tAndV (ta tb : TE) : TE := fun σ H Q => ta σ H fun x H1 => ∃ c, x = .bl c ∧ if c = true then tb σ H1 Q else Q (.bl false) H1
def tOrV (ta tb : TE) : TE := fun σ H Q => ta σ H fun x H1 => ∃ c, x = .bl c ∧ if c = true then Q (.bl true) H1 else tb σ H1 Q
def tNotV (ta : TE) : TE := fun σ H Q => ta σ H fun x H1 => ∃ c, x = .bl c ∧ Q (.bl (!c)) H1
theorem pe_one {op} {t : TE} (h : PE X a t) : PE X (.BoolOp op [a] pos) t := fun pins s σ H Q I hw => BoolOp_one (h pins s σ H Q I hw)
theorem pe_and (ha : PE X a ta) (hb : PE X (.BoolOp .And (b :: rest) pos) tb) : PE X (.BoolOp .And (a :: b :: rest) pos) (tAndV ta tb) := by
  intro pins s σ H Q I h
  refine BoolOp_and (thn (ha pins s σ H _ I h) fun v s1 ⟨x, H1, I1, r1, q1⟩ => ?_)
  obtain ⟨c, rfl, q1⟩ := q1
  cases r1
  refine wpAny_truthy_bool ?_
  cases c with
  | true => exact hb pins s1 σ H1 Q I1 q1
  | false => exact ⟨.bl false, H1, I1, rfl, q1⟩
theorem pe_or (ha : PE X a ta) (hb : PE X (.BoolOp .Or (b :: rest) pos) tb) : PE X (.BoolOp .Or (a :: b :: rest) pos) (tOrV ta tb) := by
  intro pins s σ H Q I h
  refine BoolOp_or (thn (ha pins s σ H _ I h) fun v s1 ⟨x, H1, I1, r1, q1⟩ => ?_)
  obtain ⟨c, rfl, q1⟩ := q1
  cases r1
  refine wpAny_truthy_bool ?_
  cases c with
  | false => exact hb pins s1 σ H1 Q I1 q1
  | true => exact ⟨.bl true, H1, I1, rfl, q1⟩
def tIf (t : TT) (ta tb : TE) : TE := fun σ H Q => t σ H fun c H1 => if c = true then ta σ H1 Q else tb σ H1 Q
theorem pe_ifExp {c : Expr} (hc : PT X c tA) (ha : PE X a ta) (hb : PE X b tb) : PE X (.IfExp c a b pos) (tIf tA ta tb) := by
  intro pins s σ H Q I h
  refine wpAny_IfExp (thn (hc pins s σ H _ I h) fun d s1 ⟨H1, I1, q1⟩ => ?_)
  cases d with
  | true => exact ha pins s1 σ H1 Q I1 q1
  | false => exact hb pins s1 σ H1 Q I1 q1
end
end L2

namespace L2
open PySem PySem.Spec PyProof.Rows

def SqL (K : PySem.W.Frag) (H : Hp) (a : Addr) (xs : List V) : Prop :=
  Rd H a (.lst xs) ∨
    ∃ (o : Obj) (its : Array Value) (n : Nat), K.lookup a = some o ∧ o.cls = .type "list" ∧ o.dict = none ∧ o.data = .seq its n ∧ its.size ≤ sizeLine ∧ Vals xs its.toList
def SqT (K : PySem.W.Frag) (H : Hp) (a : Addr) (xs : List V) : Prop :=
  Rd H a (.tup xs) ∨
    ∃ (o : Obj) (its : Array Value) (n : Nat), K.lookup a = some o ∧ o.cls = .type "tuple" ∧ o.data = .seq its n ∧ its.size ≤ sizeLine ∧ Vals xs its.toList
def absV : Value → Option V
  | .none => some .non
  | .bool b => some (.bl b)
  | .int i _ => some (.int i)
  | .str x _ => some (.str x)
  | .bytes b _ => some (.byt b)
  | .float b _ => some (.flt b)
  | .ref a => some (.ref a)
  | .type n => some (.ty n)
  | _ => none
theorem RelV.abs {x : V} {u : Value} (r : RelV x u) : absV u = some x := by
  cases x with
  | non => cases r; rfl
  | bl _ => cases r; rfl
  | int _ => obtain ⟨t, rfl⟩ := r; rfl
  | str _ => obtain ⟨t, rfl⟩ := r; rfl
  | byt _ => obtain ⟨t, rfl⟩ := r; rfl
  | flt _ => obtain ⟨t, rfl⟩ := r; rfl
  | ref _ => cases r; rfl
  | ty _ => cases r; rfl
theorem RelV.inj {x y : V} {u : Value} (r : RelV x u) (q : RelV y u) : x = y := Option.some.inj (r.abs.symm.trans q.abs)
theorem Vals.inj : ∀ {xs ys : List V} {us : List Value}, Vals xs us → Vals ys us → xs = ys
  | _, _, _, .nil, .nil => rfl
  | _, _, _, .cons r t, .cons r' t' => by rw [r.inj r', Vals.inj t t']
section
variable {X : Cx} {pins : List (Addr × Obj)} {σ : St} {H : Hp} {s : Shared} {a : Addr} {xs ys : List V}
theorem SqL.of {K : PySem.W.Frag} (h : H a = some (.lst xs)) : SqL K H a xs := .inl (.inl h)
theorem SqT.of {K : PySem.W.Frag} (h : H a = some (.tup xs)) : SqT K H a xs := .inl (.inl h)
theorem Inv.list (I : Inv X pins σ H s) (h : SqL X.K H a xs) : ∃ its : List Value, Vals xs its ∧ PlainL s.heap a its.toArray ∧ xs.length ≤ sizeLine := by
  rcases h with h | ⟨o, its, n, hk, hc, hd, hs, hz, r⟩
  · obtain ⟨z, its, n, r, e⟩ := h.ok I.hok
    exact ⟨its, r, ⟨_, n, e, rfl, rfl, rfl⟩, z⟩
  · refine ⟨its.toList, r, ⟨o, n, I.kIn a o hk, hc, hd, by simpa using hs⟩, ?_⟩
    have e := r.length
    simp only [Array.length_toList] at e
    omega
theorem Inv.tuple (I : Inv X pins σ H s) (h : SqT X.K H a xs) : ∃ its : List Value, Vals xs its ∧ IsTup s.heap a its.toArray ∧ xs.length ≤ sizeLine := by
  rcases h with h | ⟨o, its, n, hk, hc, hs, hz, r⟩
  · obtain ⟨z, its, r, p⟩ := h.ok I.hok
    exact ⟨its, r, p, z⟩
  · refine ⟨its.toList, r, ⟨o, I.kIn a o hk, hc, n, by simpa using hs⟩, ?_⟩
    have e := r.length
    simp only [Array.length_toList] at e
    omega
theorem Inv.list_inj (I : Inv X pins σ H s) (h : SqL X.K H a xs) (h' : SqL X.K H a ys) : xs = ys := by
  obtain ⟨its, r, ⟨o, n, e, _, _, d⟩, _⟩ := I.list h
  obtain ⟨its', r', ⟨o', n', e', _, _, d'⟩, _⟩ := I.list h'
  rw [e] at e'; cases e'
  rw [d] at d'
  injection d' with d1 _
  have : its = its' := by simpa using congrArg Array.toList d1
  subst this
  exact r.inj r'
theorem Inv.tuple_inj (I : Inv X pins σ H s) (h : SqT X.K H a xs) (h' : SqT X.K H a ys) : xs = ys := by
  obtain ⟨its, r, ⟨o, e, _, n, d⟩, _⟩ := I.tuple h
  obtain ⟨its', r', ⟨o', e', _, n', d'⟩, _⟩ := I.tuple h'
  rw [e] at e'; cases e'
  rw [d] at d'
  injection d' with d1 _
  have : its = its' := by simpa using congrArg Array.toList d1
  subst this
  exact r.inj r'
end

abbrev Cx.wish (X : Cx) (E : Value → Shared → Prop) : Cx := { X with xe := E }
abbrev Cx.nox (X : Cx) : Cx := X.wish fun _ _ => False
theorem Cx.Ok.wish {X : Cx} (ok : X.Ok) (E : Value → Shared → Prop) : (X.wish E).Ok :=
  ⟨ok.mod, ok.kind, ok.glob, ok.blt, ok.above, ok.inj, ok.has, ok.cab, ok.hd, ok.frames, ok.stk, ok.exf, ok.bs, ok.bsz, ok.noex, ok.exfs, ok.funs, ok.frf⟩
theorem Cx.Ok.unwish {X : Cx} {E : Value → Shared → Prop} (ok : (X.wish E).Ok) : X.Ok :=
  ⟨ok.mod, ok.kind, ok.glob, ok.blt, ok.above, ok.inj, ok.has, ok.cab, ok.hd, ok.frames, ok.stk, ok.exf, ok.bs, ok.bsz, ok.noex, ok.exfs, ok.funs, ok.frf⟩
section
variable {X : Cx} {pins : List (Addr × Obj)} {σ : St} {H : Hp} {s : Shared} {E : Value → Shared → Prop}
theorem Inv.wish (I : Inv X pins σ H s) (E : Value → Shared → Prop) : Inv (X.wish E) pins σ H s := ⟨I.ok.wish E, I.os, I.bare, I.base, I.loc, I.cell, I.free, I.freeC, I.pin, I.hok, I.len⟩
theorem Inv.unwish (I : Inv (X.wish E) pins σ H s) : Inv X pins σ H s := ⟨I.ok.unwish, I.os, I.bare, I.base, I.loc, I.cell, I.free, I.freeC, I.pin, I.hok, I.len⟩
theorem SP.unwish {D : Ends} {f : Flow} {s' : Shared} (h : SP (X.wish E) pins D f s') : SP X pins D f s' := by
  cases f with
  | next => obtain ⟨σ', H', I, q⟩ := h; exact ⟨σ', H', I.unwish, q⟩
  | brk => obtain ⟨σ', H', I, q⟩ := h; exact ⟨σ', H', I.unwish, q⟩
  | cont => obtain ⟨σ', H', I, q⟩ := h; exact ⟨σ', H', I.unwish, q⟩
  | ret u => obtain ⟨v, σ', H', I, r, q⟩ := h; exact ⟨v, σ', H', I.unwish, r, q⟩
theorem PE.nox {e : Expr} {t : TE} (h : PE X.nox e t) : PE X e t := fun pins s σ H Q I hw =>
  wpAny_mono (h pins s σ H Q (I.wish _) hw) (fun _ _ ⟨v, H', I', r, q⟩ => ⟨v, H', I'.unwish, r, q⟩) fun _ _ z => False.elim z
theorem PT.nox {e : Expr} {t : TT} (h : PT X.nox e t) : PT X e t := fun pins s σ H Q I hw =>
  wpAny_mono (h pins s σ H Q (I.wish _) hw) (fun _ _ ⟨H', I', q⟩ => ⟨H', I'.unwish, q⟩) fun _ _ z => False.elim z
theorem PSs.nox {st : List Stmt} {t : TS} (h : PSs X.nox st t) : PSs X st t := fun pins s σ H D I hw =>
  wpAny_mono (h pins s σ H D (I.wish _) hw) (fun _ _ q => q.unwish) fun _ _ z => False.elim z
end

section
variable {X : Cx} {st : Stmt} {rest : List Stmt} {t u : TS} {e : Expr} {te : TE} {pos : Pos}
def tNext : TS := fun D σ H => D.nx σ H
def tSeq (t u : TS) : TS := fun D σ H => t { D with nx := u D } σ H
theorem pss_nil : PSs X [] tNext := fun _ _ σ H _ I h => wpAny_execs_nil ⟨σ, H, I, h⟩
theorem pss_cons (h1 : PS X st t) (h2 : PSs X rest u) : PSs X (st :: rest) (tSeq t u) := by
  intro pins s σ H D I h
  refine wpAny_execs_cons (thn (h1 pins s σ H { D with nx := u D } I h) fun f s1 q => ?_)
  cases f with
  | next =>
    obtain ⟨σ', H', I', q⟩ := q
    exact h2 pins s1 σ' H' D I' q
  | ret v => exact q
  | brk => exact q
  | cont => exact q
theorem pss_one (h1 : PS X st t) : PSs X [st] t := by
  intro pins s σ H D I h
  refine wpAny_execs_cons (thn (h1 pins s σ H D I h) fun f s1 q => ?_)
  cases f with
  | next => exact wpAny_execs_nil q
  | ret v => exact q
  | brk => exact q
  | cont => exact q
def tBreak : TS := fun D σ H => D.bk σ H
def tCont : TS := fun D σ H => D.ct σ H
theorem Inv.quiet {pins : List (Addr × Obj)} {σ : St} {H : Hp} {s : Shared} (I : Inv X pins σ H s) : interactive X.env = false := by simp [interactive, I.ok.kind]
def tDrop (te : TE) : TS := fun D σ H => te σ H fun _ H1 => D.nx σ H1
theorem ps_expr (he : PE X e te) (hs : swapsWith e none pos.line X.env = pure false := by rfl) : PS X (.Expr e pos) (tDrop te) := by
  intro pins s σ H D I h
  exact wpAny_Expr_any (thn (he pins s σ H _ I h) fun v s1 ⟨x, H1, I1, r1, q1⟩ => ⟨σ, H1, I1, q1⟩) I.quiet hs
def tRet (te : TE) : TS := fun D σ H => te σ H D.rt
theorem ps_ret (he : PE X e te) : PS X (.Return (some e) pos) (tRet te) := by
  intro pins s σ H D I h
  exact wpAny_Return_some (thn (he pins s σ H _ I h) fun v s1 ⟨x, H1, I1, r1, q1⟩ => ⟨x, σ, H1, I1, r1, q1⟩)
def tRetN : TS := fun D _ H => D.rt .non H
def tIfS (c : TT) (t u : TS) : TS := fun D σ H => c σ H fun b H1 => if b = true then t D σ H1 else u D σ H1
theorem ps_if {c : Expr} {a b : List Stmt} {tc : TT} (hc : PT X c tc) (ha : PSs X a t) (hb : PSs X b u) : PS X (.If c a b pos) (tIfS tc t u) := by
  intro pins s σ H D I h
  refine wpAny_If (thn (hc pins s σ H _ I h) fun d s1 ⟨H1, I1, q1⟩ => ?_)
  cases d with
  | true => exact ha pins s1 σ H1 D I1 q1
  | false => exact hb pins s1 σ H1 D I1 q1
def tNever : TS := fun _ _ _ => False
theorem ps_never : PS X st tNever := fun _ _ _ _ _ _ h => h.elim
end

abbrev TG := V → St → Hp → (St → Hp → Prop) → Prop
abbrev TGs := List V → St → Hp → (St → Hp → Prop) → Prop
def PG (X : Cx) (target : Expr) (t : TG) : Prop :=
  ∀ (pins : List (Addr × Obj)) (s : Shared) (σ : St) (H : Hp) (v : V) (u : Value) (Q : St → Hp → Prop), Inv X pins σ H s → RelV v u → t v σ H Q →
    wpAny (model X.prog X.w) X.A (assign target X.env u) (fun _ s' => ∃ σ' H', Inv X pins σ' H' s' ∧ Q σ' H') X.xe s
def PGs (X : Cx) (ts : List Expr) (t : TGs) : Prop :=
  ∀ (pins : List (Addr × Obj)) (s : Shared) (σ : St) (H : Hp) (vs : List V) (us : List Value) (Q : St → Hp → Prop), Inv X pins σ H s → Vals vs us → t vs σ H Q →
    wpAny (model X.prog X.w) X.A (assignInOrder ((assignEach ts X.env).map (·.2)) us) (fun _ s' => ∃ σ' H', Inv X pins σ' H' s' ∧ Q σ' H') X.xe s
abbrev TSet := V → V → V → Hp → (Hp → Prop) → Prop
abbrev TIp := V → V → Hp → VK → Prop
section
variable {X : Cx} {pos : Pos}
def gName (i : Nat) : TG := fun v σ H Q => Q (σ.set i (some v)) H
theorem pg_name {i : Nat} {x : Str} (hN : X.N.Nodup) (hi : X.N[i]? = some x) (hx : Loc X.env.scope x) (hf : X.fn x = true ∨ X.env.scope.names.lookup x = some .local := by first | exact .inl rfl | exact .inr rfl | assumption) : PG X (.Name x pos) (gName i) := by
  intro pins s σ H v u Q I r h
  exact wpAny_assign_Name (store_ok I hN hi hx r (fun s' I' => ⟨_, H, I', h⟩) hf)
def gNil : TGs := fun vs σ H Q => vs = [] ∧ Q σ H
def gCons (t : TG) (u : TGs) : TGs := fun vs σ H Q => ∃ v r, vs = v :: r ∧ t v σ H fun σ' H' => u r σ' H' Q
theorem pgs_nil : PGs X [] gNil := by
  intro pins s σ H vs us Q I r h
  obtain ⟨e, h⟩ := h
  subst e
  cases r
  exact assignInOrder_nil ⟨σ, H, I, h⟩
theorem pgs_cons {e : Expr} {es : List Expr} {t : TG} {u : TGs} (h1 : PG X e t) (h2 : PGs X es u)
    (hs : (assignEach (e :: es) X.env).map (·.2) = assign e X.env :: (assignEach es X.env).map (·.2) := by rfl) : PGs X (e :: es) (gCons t u) := by
  intro pins s σ H vs us Q I r h
  obtain ⟨v, vr, e1, h⟩ := h
  subst e1
  cases r with
  | cons r rr =>
    rw [hs]
    refine assignInOrder_cons (thn (h1 pins s σ H _ _ _ I r h) fun _ s1 ⟨σ1, H1, I1, q1⟩ => ?_)
    exact h2 pins s1 σ1 H1 _ _ Q I1 rr q1
def gTup (K : PySem.W.Frag) (n : Nat) (t : TGs) : TG := fun v σ H Q => ∃ a xs, v = .ref a ∧ SqT K H a xs ∧ xs.length = n ∧ t xs σ H Q
theorem pg_tup {es : List Expr} {k : Nat} {t : TGs} {n : Nat} (hc : X.calm = true) (h : PGs X es t)
    (hn : (assignEach es X.env).length = n := by rfl) (hst : (assignEach es X.env).findIdx? (·.1) = none := by rfl) : PG X (.Tuple es k pos) (gTup X.K n t) := by
  intro pins s σ H v u Q I r hw
  obtain ⟨a, xs, e1, hq, hl, hw⟩ := hw
  subst e1
  cases r
  obtain ⟨its, rv, ht, hz⟩ := I.tuple hq
  refine assign_Tuple_tuple (I.ok.hd hc) ht (by simp [hn, ← hl, rv.length]) hst fun h' hx => ?_
  have I1 : Inv X pins σ H { s with heap := h' } := I.kept (t' := s.toks) fun b o e => hx b o (Nat.ne_of_lt (Heap.lt_size e)) e
  exact h pins _ σ H xs _ Q I1 (by simpa using rv) hw
def gSub (to ti : TE) (t : TSet) : TG := fun v σ H Q => to σ H fun o H1 => ti σ H1 fun i H2 => t o i v H2 fun H3 => Q σ H3
def tAsg (te : TE) (g : TG) : TS := fun D σ H => te σ H fun x H1 => g x σ H1 D.nx
theorem ps_set {i : Nat} {x : Str} {e : Expr} {te : TE} {pos' : Pos} (hN : X.N.Nodup) (hi : X.N[i]? = some x) (hx : Loc X.env.scope x) (he : PE X e te) (hs : swapsWith e (some (.Name x pos')) pos.line X.env = pure false := by rfl) (hf : X.fn x = true ∨ X.env.scope.names.lookup x = some .local := by first | exact .inl rfl | exact .inr rfl | assumption) :
    PS X (.Assign [.Name x pos'] e pos) (tAsg te (gName i)) := by
  intro pins s σ H D I h
  refine wpAny_Assign_Name (thn (he pins s σ H _ I h) fun v s1 ⟨y, H1, I1, r1, q1⟩ => ?_) hs
  exact store_ok I1 hN hi hx r1 (fun s2 I2 => ⟨_, H1, I2, q1⟩) hf
def tPar (i j : Nat) (ta : TA) : TS := fun D σ H => ta σ H fun vs H1 => ∃ v w, vs = [v, w] ∧ D.nx ((σ.set i (some v)).set j (some w)) H1
theorem ps_par {i j : Nat} {x y : Str} {a b : Expr} {ta : TA} {px py pt : Pos} {kt k2 pt2} (hc : X.calm = true) (hN : X.N.Nodup) (hi : X.N[i]? = some x) (hj : X.N[j]? = some y) (hij : i ≠ j)
    (hx : X.env.scope.names.lookup x = some .local) (hy : X.env.scope.names.lookup y = some .local) (ha : PA X [a, b] ta)
    (hw : swappedStores [.Tuple [.Name x px, .Name y py] kt pt] (.Tuple [a, b] k2 pt2) X.env = pure (some [x, y]))
    (hs : swapsWithSole [.Tuple [.Name x px, .Name y py] kt pt] (.Tuple [a, b] k2 pt2) pos.line X.env = pure false := by rfl) :
    PS X (.Assign [.Tuple [.Name x px, .Name y py] kt pt] (.Tuple [a, b] k2 pt2) pos) (tPar i j ta) := by
  intro pins s σ H D I h
  rw [exec_Assign_arm]
  refine wpAny_bind (wpAny_standAt ?_)
  rw [hs]
  refine wpAny_bind (wpAny_pure ?_)
  rw [if_neg (by decide)]
  refine wpAny_bind (Tuple_ (thn (ha _ pins s σ H _ I h) fun us s1 ⟨vs, H1, I1, r1, q1⟩ => ?_))
  obtain ⟨v, w, e1, q1⟩ := q1
  subst e1
  obtain ⟨u1, u2, rfl, rv, rw'⟩ : ∃ u1 u2, us = [u1, u2] ∧ RelV v u1 ∧ RelV w u2 := by
    cases r1 with
    | cons p q =>
      cases q with
      | cons p' q' =>
        cases q'
        exact ⟨_, _, rfl, p, p'⟩
  refine wpAny_newObj_type ?_ (by show 2 ≤ sizeLine; decide)
  have I2 : Inv X pins σ H1 { s1 with heap := s1.heap.push { cls := .type "tuple", data := .seq [u1, u2].toArray } } := I1.kept (t' := s1.toks) fun b o e => Heap.get?_push_of_some _ e
  rw [hw]
  refine wpAny_bind (wpAny_pure ?_)
  show wpAny (model X.prog X.w) X.A (do rule "assign.swapped-stores"; let items ← unpackItems (.ref s1.heap.objs.size) 2 none; assignInOrder [fun v => bindName X.env y v, fun v => bindName X.env x v] items.reverse; pure Flow.next) _ _ _
  refine wpAny_bind (wpAny_rule (wpAny_bind (unpackItems_tuple (items := #[u1, u2]) (I.ok.hd hc) (IsTup.new s1.heap _) fun h' hx' => ?_)))
  have I3 := I2.kept (h' := h') (t' := s1.toks) fun b o e => hx' b o (Nat.ne_of_lt (Heap.lt_size e)) e
  show wpAny _ _ (assignInOrder [fun v => bindName X.env y v, fun v => bindName X.env x v] [u2, u1] >>= fun _ => pure Flow.next) _ _ _
  refine wpAny_bind (assignInOrder_cons (wpAny_bindName (store_ok I3 hN hj (.inl hy) rw' (fun s2 I4 => ?_) (.inr hy))))
  refine assignInOrder_cons (wpAny_bindName (store_ok I4 hN hi (.inl hx) rv (fun s3 I5 => assignInOrder_nil (wpAny_pure ?_)) (.inr hx)))
  rw [List.set_comm _ _ (Ne.symm hij)] at I5
  exact ⟨_, H1, I5, q1⟩
def tAug (i : Nat) (te : TE) (ti : TIp) : TS := fun D σ H => ∃ x, σ[i]? = some (some x) ∧ te σ H fun y H1 => ti x y H1 fun z H2 => D.nx (σ.set i (some z)) H2
def ipI (f : Int → Int → Int) : TIp := fun x y H Q => ∃ i j, x = .int i ∧ y = .int j ∧ Q (.int (f i j)) H
end

section
variable {X : Cx} {pos : Pos}
def tWhile (c : TT) (tb : TS) : TS := fun D σ H => ∃ W : Nat → St → Hp → Prop, (∃ m, W m σ H) ∧ ∀ m σ H, W m σ H →
  c σ H fun b H1 => if b = true then ∃ N : St → Hp → Prop, (∀ σ' H', N σ' H' → ∃ m', m' < m ∧ W m' σ' H') ∧ tb { D with nx := N, ct := N, bk := D.nx } σ H1 else D.nx σ H1
theorem ps_while {c : Expr} {body : List Stmt} {tc : TT} {tb : TS} (hp : PassesOwn (model X.prog X.w) X.A X.env X.xe) (hc : PT X c tc) (hb : PSs X body tb) : PS X (.While c body [] pos) (tWhile tc tb) := by
  intro pins s σ H D I h
  obtain ⟨W, ⟨m0, w0⟩, turn⟩ := h
  refine wpAny_While (codeAny_whileLoop (fun n s' => ∃ σ' H', Inv X pins σ' H' s' ∧ W n σ' H') ?_ m0 ⟨σ, H, I, w0⟩)
  rintro n s1 ⟨σ1, H1, I1, w1⟩
  refine wpAny_passesOwn hp (thn (hc pins s1 σ1 H1 _ I1 (turn n σ1 H1 w1)) fun b s2 ⟨H2, I2, q2⟩ => ?_)
  cases b with
  | true =>
    obtain ⟨N, hN, q2⟩ := q2
    rw [if_pos rfl]
    refine wpAny_passesOwn hp (thn (hb pins s2 σ1 H2 _ I2 q2) fun f s3 q3 => ?_)
    cases f with
    | next =>
      obtain ⟨σ3, H3, I3, n3⟩ := q3
      obtain ⟨m', hm, w3⟩ := hN σ3 H3 n3
      exact ⟨m', hm, σ3, H3, I3, w3⟩
    | cont =>
      obtain ⟨σ3, H3, I3, n3⟩ := q3
      obtain ⟨m', hm, w3⟩ := hN σ3 H3 n3
      exact ⟨m', hm, σ3, H3, I3, w3⟩
    | brk => exact q3
    | ret v => exact q3
  | false =>
    rw [if_neg Bool.false_ne_true]
    exact wpAny_execs_nil ⟨σ1, H2, I2, q2⟩
end

structure It where
  go : Nat → Hp → Prop
  yld : Nat → Hp → V → Hp → Prop
  stop : Nat → Hp → Prop
def FpOk (X : Cx) (pins : List (Addr × Obj)) (H : Hp) (b : Addr) : Prop :=
  H b = none ∧ b ≠ X.env.locals ∧ b ∉ X.fs ∧ (b ∈ X.ex ∨ X.s₀.heap.objs.size ≤ b) ∧ (∀ x c, X.env.cells.lookup x = some c → c ≠ b) ∧ ∀ p ∈ X.pn ++ pins, p.1 ≠ b
theorem Inv.fpOk {X : Cx} {pins : List (Addr × Obj)} {σ : St} {H H' : Hp} {s : Shared} {b : Addr} (I : Inv X pins σ H s) (hb : s.heap.objs.size ≤ b) (hn : H' b = none) : FpOk X pins H' b := by
  refine ⟨hn, Nat.ne_of_gt (Nat.lt_of_lt_of_le I.lt hb), I.nofs hb, .inr (Nat.le_trans I.sz hb), fun x c e z => ?_, fun p hp z => ?_⟩
  · obtain ⟨v, q⟩ := I.cell x c e
    exact absurd (Nat.lt_of_lt_of_le q.lt (by rw [z]; exact hb)) (Nat.lt_irrefl _)
  · exact absurd (Nat.lt_of_lt_of_le (Heap.lt_size (I.pin p hp).1) (by rw [z]; exact hb)) (Nat.lt_irrefl _)
structure Turn (P : Program) (w : World) (K : PySem.W.Frag) (tg : Expr) (J : It) (fp : List Addr) (it : Addr) (tn : Nat → Heap → Prop) : Prop where
  mem : it ∈ fp
  obj : ∀ i h, tn i h → ∀ b ∈ fp, ∃ o, h.get? b = some o ∧ ∀ v, o.data ≠ .cell v
  keep : ∀ i h h', tn i h → (∀ b ∈ fp, ∀ o, h.get? b = some o → h'.get? b = some o) → tn i h'
  item : ∀ (X : Cx), X.prog = P → X.w = w → X.K = K → X.calm = true → ∀ (i : Nat) (pins : List (Addr × Obj)) (s : Shared) (σ : St) (H : Hp) (E : Value → Shared → Prop), Inv X pins σ H s → (∀ b ∈ fp, FpOk X pins H b) → tn i s.heap → J.go i H →
    wpAny (model P w) X.A (pyNext (.ref it)) (fun r s1 => ∃ u, r = some u ∧
      wpAny (model P w) X.A (letOwnedTupleGo tg (.ref it) u) (fun _ s2 => ∃ x H', Inv X pins σ H' s2 ∧ RelV x u ∧ J.yld i H x H' ∧ tn (i + 1) s2.heap ∧ ∀ b ∈ fp, H' b = none) E s1) E s
  done : ∀ (X : Cx), X.prog = P → X.w = w → X.K = K → X.calm = true → ∀ (i : Nat) (pins : List (Addr × Obj)) (s : Shared) (σ : St) (H : Hp) (E : Value → Shared → Prop), Inv X pins σ H s → (∀ b ∈ fp, FpOk X pins H b) → tn i s.heap → J.stop i H →
    wpAny (model P w) X.A (pyNext (.ref it)) (fun r s1 => r = none ∧ Inv X pins σ H s1) E s
  self : ∀ (A : Around) (i : Nat) (s : Shared) (Q : Value → Shared → Prop) (E : Value → Shared → Prop), tn i s.heap → Q (.ref it) s → wpAny (model P w) A (pyIter (.ref it)) Q E s
abbrev TI := St → Hp → (It → Hp → Prop) → Prop
def PIE (X : Cx) (pins : List (Addr × Obj)) (σ : St) (tg : Expr) (R : It → Hp → Prop) (itv : Value) (s2 : Shared) : Prop :=
  ∃ (it : Addr) (fp : List Addr) (tn : Nat → Heap → Prop) (J : It) (H' : Hp), itv = .ref it ∧ Inv X pins σ H' s2 ∧ Turn X.prog X.w X.K tg J fp it tn ∧ tn 0 s2.heap ∧ (∀ b ∈ fp, FpOk X pins H' b) ∧ R J H'
def PI (X : Cx) (tg iter : Expr) (wi : TI) : Prop :=
  ∀ (pins : List (Addr × Obj)) (s : Shared) (σ : St) (H : Hp) (R : It → Hp → Prop), Inv X pins σ H s → wi σ H R →
    wpAny (model X.prog X.w) X.A (eval iter X.env) (fun v s1 => wpAny (model X.prog X.w) X.A (pyIter v) (PIE X pins σ tg R) X.xe s1) X.xe s

theorem go_of {M : Model} {A : Around} {E : Value → Shared → Prop} {s : Shared} {tg : Expr} {it : Addr} {u : Value} {o : Obj} {n : String} {vs : Array Value} {Q : Unit → Shared → Prop} (ho : s.heap.get? it = some o) (hc : o.cls = .type n) (hd : o.data = .fields vs)
    (hn : ["enumerate", "zip", "dict_itemiterator", "dict_reverseitemiterator", "odict_iterator", "itertools.zip_longest", "itertools.pairwise"].contains n = false) (hQ : Q () s) : wpAny M A (letOwnedTupleGo tg (.ref it) u) Q E s := by
  unfold letOwnedTupleGo
  cases tg <;> first
    | exact wpAny_pure hQ
    | (cases u <;> first
        | exact wpAny_pure hQ
        | (refine wpAny_bind (wpAny_load ho ?_)
           rw [hc, hd]
           show wpAny M A (if (["enumerate", "zip", "dict_itemiterator", "dict_reverseitemiterator", "odict_iterator", "itertools.zip_longest", "itertools.pairwise"].contains n && vs[0]? == some (rawInt _)) = true then _ else _) Q E s
           rw [if_neg (by intro h; rw [hn, Bool.false_and] at h; cases h)]
           exact wpAny_pure hQ))

def Itl (K : PySem.W.Frag) (a : Addr) : It :=
  ⟨fun i H => ∃ xs x, SqL K H a xs ∧ xs[i]? = some x, fun i H x H' => H' = H ∧ ∀ xs, SqL K H a xs → xs[i]? = some x, fun i H => ∃ xs, SqL K H a xs ∧ xs.length ≤ i⟩
def Itt (K : PySem.W.Frag) (a : Addr) : It :=
  ⟨fun i H => ∃ xs x, SqT K H a xs ∧ xs[i]? = some x, fun i H x H' => H' = H ∧ ∀ xs, SqT K H a xs → xs[i]? = some x, fun i H => ∃ xs, SqT K H a xs ∧ xs.length ≤ i⟩
def Itr (lo : Int) (n : Nat) : It := ⟨fun i _ => i < n, fun i H x H' => H' = H ∧ x = .int (lo + i), fun i _ => n ≤ i⟩
theorem turn_list {P : Program} {w : World} {K : PySem.W.Frag} {tg : Expr} (a it : Addr) : Turn P w K tg (Itl K a) [it] it (fun i h => h.IsListIter it a i) where
  mem := by simp
  obj := fun i h st b hb => by
    have e : b = it := by simpa using hb
    subst e
    obtain ⟨o, e, c, d⟩ := st
    exact ⟨o, e, fun v z => by rw [d] at z; cases z⟩
  keep := fun i h h' st k => st.at fun o e => k it (by simp) o e
  item := by
    intro X hP hw hK hc i pins s σ H E I hf st hg
    subst hP hw hK
    obtain ⟨xs, x, hq, hx⟩ := hg
    obtain ⟨its, rv, p, hz⟩ := I.list hq
    obtain ⟨u, hu, ru⟩ := rv.get hx
    obtain ⟨f0, f1, f2, f3, f4, f5⟩ := hf it (by simp)
    refine wpAny_pyNext_list_item st p.isList (x := u) (by simpa using hu) fun h' st' sb => ?_
    have I1 : Inv X pins σ H { s with heap := h' } := I.turned (t' := s.toks) (fun b o hb e => (sb.2 b hb).trans e) f0 f1 f3 f4 f5
    obtain ⟨o, e, c, d⟩ := id st'
    exact ⟨u, rfl, go_of (s := { s with heap := h' }) e c d (by decide) ⟨x, H, I1, ru, ⟨rfl, fun ys hy => by rw [I.list_inj hy hq]; exact hx⟩, st', fun b hb => (hf b hb).1⟩⟩
  done := by
    intro X hP hw hK hc i pins s σ H E I hf st hg
    subst hP hw hK
    obtain ⟨xs, hq, hx⟩ := hg
    obtain ⟨its, rv, p, hz⟩ := I.list hq
    obtain ⟨f0, f1, f2, f3, f4, f5⟩ := hf it (by simp)
    have hl := rv.length
    exact wpAny_pyNext_list_end (I.ok.hd hc) st p.isList (by simp; omega) fun h' eb => ⟨rfl, I.turned (t' := s.toks) (fun b o hb e => eb b o hb e) f0 f1 f3 f4 f5⟩
  self := fun _ _ _ _ _ st h => wpAny_pyIter_listiter st h
end L2

namespace L2
open PySem PySem.Spec PyProof.Rows
section
variable {X : Cx} {tg : Expr}
def iList (K : PySem.W.Frag) (tl : TE) : TI := fun σ H R => tl σ H fun x H1 => ∃ a, x = .ref a ∧ (∃ xs, SqL K H1 a xs) ∧ R (Itl K a) H1
def iTup (K : PySem.W.Frag) (tl : TE) : TI := fun σ H R => tl σ H fun x H1 => ∃ a, x = .ref a ∧ (∃ xs, SqT K H1 a xs) ∧ R (Itt K a) H1
theorem pi_list {l : Expr} {tl : TE} (hl : PE X l tl) : PI X tg l (iList X.K tl) := by
  intro pins s σ H R I h
  refine thn (hl pins s σ H _ I h) fun v s1 ⟨x, H1, I1, r1, q1⟩ => ?_
  obtain ⟨a, e, ⟨xs, hq⟩, q⟩ := q1
  subst e
  cases r1
  obtain ⟨its, rv, p, hz⟩ := I1.list hq
  refine wpAny_pyIter_list p.isList ?_
  refine ⟨s1.heap.objs.size, [s1.heap.objs.size], _, _, H1, rfl, I1.kept (t' := s1.toks) fun b o e => Heap.get?_push_of_some _ e, turn_list a _, ⟨_, Heap.get?_push_size _ rfl, rfl, rfl⟩, fun b hb => ?_, q⟩
  have e : b = s1.heap.objs.size := by simpa using hb
  subst e
  exact I1.fpOk (Nat.le_refl _) (I1.hok.fresh (Nat.le_refl _))
def iRng1 (ta : TA) : TI := fun σ H R => ta σ H fun vs H1 => ∃ j : Int, vs = [.int j] ∧ -(2 ^ 62) ≤ j ∧ j < 2 ^ 62 ∧ R (Itr 0 j.toNat) H1
def iRng2 (ta : TA) : TI := fun σ H R => ta σ H fun vs H1 => ∃ i j : Int, vs = [.int i, .int j] ∧ (-(2 ^ 62) ≤ i ∧ i < 2 ^ 62 ∧ -(2 ^ 62) ≤ j ∧ j < 2 ^ 62) ∧ R (Itr i (j - i).toNat) H1
def tFor (wi : TI) (g : TG) (tb : TS) : TS := fun D σ H => wi σ H fun J H1 => ∃ W : Nat → Nat → St → Hp → Prop, (∃ m, W 0 m σ H1) ∧ ∀ i m σ H, W i m σ H →
  (J.stop i H ∧ D.nx σ H) ∨ (J.go i H ∧ ∃ N : St → Hp → Prop, (∀ σ' H', N σ' H' → ∃ m', m' < m ∧ W (i + 1) m' σ' H') ∧ ∀ x H', J.yld i H x H' → g x σ H' fun σ2 H2 => tb { D with nx := N, ct := N, bk := D.nx } σ2 H2)
def pinsAt (fp : List Addr) (h : Heap) : List (Addr × Obj) := fp.filterMap fun b => (h.get? b).map fun o => (b, o)
theorem mem_pinsAt {fp : List Addr} {h : Heap} {b : Addr} {o : Obj} (hb : b ∈ fp) (e : h.get? b = some o) : (b, o) ∈ pinsAt fp h := List.mem_filterMap.mpr ⟨b, hb, by rw [e]; rfl⟩
theorem of_pinsAt {fp : List Addr} {h : Heap} {p : Addr × Obj} (hp : p ∈ pinsAt fp h) : p.1 ∈ fp ∧ h.get? p.1 = some p.2 := by
  obtain ⟨b, hb, e⟩ := List.mem_filterMap.mp hp
  cases q : h.get? b with
  | none => rw [q] at e; cases e
  | some o =>
    rw [q] at e
    have e' : (b, o) = p := Option.some.inj e
    subst e'
    exact ⟨hb, q⟩
theorem Inv.pinned {pins : List (Addr × Obj)} {σ : St} {H : Hp} {s : Shared} {fp : List Addr} (I : Inv X pins σ H s) (hf : ∀ b ∈ fp, FpOk X pins H b) (ho : ∀ b ∈ fp, ∃ o, s.heap.get? b = some o ∧ ∀ v, o.data ≠ .cell v) : Inv X (pins ++ pinsAt fp s.heap) σ H s :=
  I.pins_of fun p hp => (List.mem_append.mp hp).elim (fun z => I.pin p (List.mem_append_right _ z)) fun z => by
    obtain ⟨hb, e⟩ := of_pinsAt z
    obtain ⟨f0, f1, f2, _⟩ := hf p.1 hb
    obtain ⟨o, e', d⟩ := ho p.1 hb
    rw [e] at e'; cases e'
    exact ⟨e, f0, f1, f2, d⟩
theorem Inv.unpinned {pins pl : List (Addr × Obj)} {σ : St} {H : Hp} {s : Shared} (I : Inv X (pins ++ pl) σ H s) : Inv X pins σ H s := I.pins_of fun p hp => I.pin p (List.mem_append_right _ (List.mem_append_left _ hp))
theorem ps_for {iter : Expr} {body : List Stmt} {wi : TI} {g : TG} {tb : TS} {pos : Pos} (hp : PassesOwn (model X.prog X.w) X.A X.env X.xe) (hc : X.calm = true) (hi : PI X tg iter wi) (hg : PG X tg g) (hb : PSs X body tb)
    (hs : ∀ x, foldedSetIterable iter X.env x = pure x := by intro _; rfl) : PS X (.For tg iter body [] pos) (tFor wi g tb) := by
  intro pins s σ H D I h
  refine wpAny_For (thn (hi pins s σ H _ I h) fun v s1 h1 => thn h1 fun itv s2 h2 => ?_) hs
  obtain ⟨it, fp, tn, J, H2, e, I2, T, st2, f2, W, ⟨m0, w0⟩, turn⟩ := h2
  subst e
  -- what stays true of the iterator's objects through the loop
  have stat : ∀ {H' : Hp}, (∀ b ∈ fp, H' b = none) → ∀ b ∈ fp, FpOk X pins H' b := fun hn b hb => ⟨hn b hb, (f2 b hb).2⟩
  refine codeAny_forLoop_any (fun n s' => ∃ i σ' H', Inv X pins σ' H' s' ∧ tn i s'.heap ∧ (∀ b ∈ fp, H' b = none) ∧ W i n σ' H') ?_ m0 ⟨0, σ, H2, I2, st2, fun b hb => (f2 b hb).1, w0⟩
  rintro n s3 ⟨i, σ3, H3, I3, st3, fr3, w3⟩
  rcases turn i n σ3 H3 w3 with ⟨stop, qn⟩ | ⟨go, N, hN, step⟩
  · refine wpAny_passesOwn hp (thn (T.done X rfl rfl rfl hc i pins s3 σ3 H3 X.xe I3 (stat fr3) st3 stop) fun r s4 ⟨hr, I4⟩ => ?_)
    subst hr
    exact wpAny_execs_nil ⟨σ3, H3, I4, qn⟩
  · refine wpAny_passesOwn hp (thn (T.item X rfl rfl rfl hc i pins s3 σ3 H3 X.xe I3 (stat fr3) st3 go) fun r s4 ⟨u, hr, h4⟩ => ?_)
    subst hr
    refine wpAny_passesOwn hp (thn h4 fun _ s5 ⟨x, H5, I5, r5, y5, st5, fr5⟩ => ?_)
    have I5' := I5.pinned (stat fr5) (T.obj _ _ st5)
    refine wpAny_passesOwn hp (thn (hg _ s5 σ3 H5 x u _ I5' r5 (step x H5 y5)) fun _ s6 ⟨σ6, H6, I6, q6⟩ => ?_)
    refine wpAny_passesOwn hp (thn (hb _ s6 σ6 H6 _ I6 q6) fun f s7 q7 => ?_)
    have again : ∀ {σ7 : St} {H7 : Hp}, Inv X (pins ++ pinsAt fp s5.heap) σ7 H7 s7 → N σ7 H7 → ∃ m, m < n ∧ ∃ i σ' H', Inv X pins σ' H' s7 ∧ tn i s7.heap ∧ (∀ b ∈ fp, H' b = none) ∧ W i m σ' H' := fun {σ7 H7} I7 n7 => by
      obtain ⟨m', hm, w7⟩ := hN σ7 H7 n7
      refine ⟨m', hm, i + 1, σ7, H7, I7.unpinned, T.keep _ _ _ st5 fun b hb o e => (I7.pin (b, o) (List.mem_append_right _ (List.mem_append_right _ (mem_pinsAt hb e)))).1, fun b hb => ?_, w7⟩
      obtain ⟨o, e, d⟩ := T.obj _ _ st5 b hb
      exact (I7.pin (b, o) (List.mem_append_right _ (List.mem_append_right _ (mem_pinsAt hb e)))).2.1
    cases f with
    | next => obtain ⟨σ7, H7, I7, n7⟩ := q7; exact again I7 n7
    | cont => obtain ⟨σ7, H7, I7, n7⟩ := q7; exact again I7 n7
    | brk => obtain ⟨σ7, H7, I7, q7⟩ := q7; exact ⟨σ7, H7, I7.unpinned, q7⟩
    | ret v => obtain ⟨x7, σ7, H7, I7, r7, q7⟩ := q7; exact ⟨x7, σ7, H7, I7.unpinned, r7, q7⟩
end

theorem for_list {K : PySem.W.Frag} {a : Addr} {xs : List V} {g : TG} {tb : TS} {D : Ends} {σ : St} {H : Hp} (Pv : Nat → St → Hp → Prop) (h0 : Pv 0 σ H) (hl : ∀ i σ H, i ≤ xs.length → Pv i σ H → SqL K H a xs)
    (hs : ∀ i x σ H, xs[i]? = some x → Pv i σ H → g x σ H fun σ2 H2 => tb { D with nx := Pv (i + 1), ct := Pv (i + 1), bk := D.nx } σ2 H2) (hd : ∀ σ H, Pv xs.length σ H → D.nx σ H) :
    ∃ W : Nat → Nat → St → Hp → Prop, (∃ m, W 0 m σ H) ∧ ∀ i m σ H, W i m σ H →
      ((Itl K a).stop i H ∧ D.nx σ H) ∨ ((Itl K a).go i H ∧ ∃ N : St → Hp → Prop, (∀ σ' H', N σ' H' → ∃ m', m' < m ∧ W (i + 1) m' σ' H') ∧ ∀ x H', (Itl K a).yld i H x H' → g x σ H' fun σ2 H2 => tb { D with nx := N, ct := N, bk := D.nx } σ2 H2) := by
  refine ⟨fun i m σ H => m = xs.length - i ∧ i ≤ xs.length ∧ Pv i σ H, ⟨xs.length, by simp, Nat.zero_le _, h0⟩, ?_⟩
  rintro i m σ H ⟨rfl, hi, p⟩
  have q := hl i σ H hi p
  by_cases hlt : i < xs.length
  · refine .inr ⟨⟨xs, xs[i], q, by simp [hlt]⟩, Pv (i + 1), fun σ' H' p' => ⟨xs.length - (i + 1), by omega, rfl, hlt, p'⟩, fun x H' y => ?_⟩
    obtain ⟨e, y⟩ := y
    subst e
    exact hs i x σ _ (y xs q) p
  · have e : i = xs.length := by omega
    subst e
    exact .inl ⟨⟨xs, q, Nat.le_refl _⟩, hd σ H p⟩
end L2

namespace L2
open PySem PySem.Spec PyProof.Rows

abbrev R2 := V → V → Hp → VK → Prop
def OpR (X : Cx) (f : Value → Value → Sem Value) (r : R2) : Prop :=
  ∀ (pins : List (Addr × Obj)) (s : Shared) (σ : St) (H : Hp) (x y : V) (v u : Value) (Q : VK), Inv X pins σ H s → RelV x v → RelV y u → r x y H Q →
    wpAny (model X.prog X.w) X.A (f v u) (EP X pins σ Q) X.xe s
def UnR (X : Cx) (f : Value → Sem Value) (r : V → Hp → VK → Prop) : Prop :=
  ∀ (pins : List (Addr × Obj)) (s : Shared) (σ : St) (H : Hp) (x : V) (v : Value) (Q : VK), Inv X pins σ H s → RelV x v → r x H Q →
    wpAny (model X.prog X.w) X.A (f v) (EP X pins σ Q) X.xe s
def CallR (X : Cx) (f : Value) (r : List V → Hp → VK → Prop) : Prop :=
  ∀ (pins : List (Addr × Obj)) (s : Shared) (σ : St) (H : Hp) (xs : List V) (us : List Value) (Q : VK), Inv X pins σ H s → Vals xs us → r xs H Q →
    wpAny (model X.prog X.w) X.A (call f us) (EP X pins σ Q) X.xe s
def tOp (r : R2) (ta tb : TE) : TE := fun σ H Q => ta σ H fun x H1 => tb σ H1 fun y H2 => r x y H2 Q
def tUn (r : V → Hp → VK → Prop) (ta : TE) : TE := fun σ H Q => ta σ H fun x H1 => r x H1 Q
def rI (C : Int → Int → Prop) (g : Int → Int → V) : R2 := fun x y H Q => ∃ i j, x = .int i ∧ y = .int j ∧ C i j ∧ Q (g i j) H
def rI0 (g : Int → Int → V) : R2 := fun x y H Q => ∃ i j, x = .int i ∧ y = .int j ∧ Q (g i j) H
def rU (g : Int → V) : V → Hp → VK → Prop := fun x H Q => ∃ i, x = .int i ∧ Q (g i) H

section
variable {X : Cx} {a b c : Expr} {ta tb tc : TE} {pos : Pos}

theorem binT (ha : PE X a ta) (hb : PE X b tb) {pins : List (Addr × Obj)} {s : Shared} {σ : St} {H : Hp} {R : V → V → Hp → Prop} (I : Inv X pins σ H s)
    (h : ta σ H fun x H1 => tb σ H1 fun y H2 => R x y H2) {Q : Value → Shared → Prop} {f : Value → Value → Sem Value}
    (hf : ∀ v u s2 x y H2, Inv X pins σ H2 s2 → RelV x v → RelV y u → R x y H2 → wpAny (model X.prog X.w) X.A (f v u) Q X.xe s2) :
    wpAny (model X.prog X.w) X.A (eval a X.env) (fun v s₁ => wpAny (model X.prog X.w) X.A (eval b X.env) (fun u s₂ => wpAny (model X.prog X.w) X.A (f v u) Q X.xe s₂) X.xe s₁) X.xe s := by
  refine thn (ha pins s σ H _ I h) fun v s1 ⟨x, H1, I1, r1, q1⟩ => ?_
  refine thn (hb pins s1 σ H1 _ I1 q1) fun u s2 ⟨y, H2, I2, r2, q2⟩ => ?_
  exact hf v u s2 x y H2 I2 r1 r2 q2

theorem pe_op {op : Operator} {r : R2} (ho : OpR X (binaryOp op) r) (ha : PE X a ta) (hb : PE X b tb) : PE X (.BinOp a op b pos) (tOp r ta tb) := by
  intro pins s σ H Q I h
  exact wpAny_BinOp (binT ha hb I h fun v u s2 x y H2 I2 rx ry q => ho pins s2 σ H2 x y v u Q I2 rx ry q)
theorem pe_un {op : UnaryOp} {r : V → Hp → VK → Prop} (ho : UnR X (unaryOp op) r) (ha : PE X a ta) : PE X (.UnaryOp op a pos) (tUn r ta) := by
  intro pins s σ H Q I h
  exact UnaryOp_ (thn (ha pins s σ H _ I h) fun v s1 ⟨x, H1, I1, r1, q1⟩ => ho pins s1 σ H1 x v Q I1 r1 q1)
theorem opI {f : Value → Value → Sem Value} {C : Int → Int → Prop} {g : Int → Int → Int}
    (rule : ∀ (i j : Int) (t u : Tok) (s : Shared) (Q : Value → Shared → Prop) (E : Value → Shared → Prop), C i j → Q (.int (g i j) s.toks) { s with toks := s.toks + 1 } → wpAny (model X.prog X.w) X.A (f (.int i t) (.int j u)) Q E s) :
    OpR X f (rI C fun i j => .int (g i j)) := by
  intro pins s σ H x y v u Q I rx ry h
  obtain ⟨i, j, rfl, rfl, hc, q⟩ := h
  obtain ⟨t, rfl⟩ := rx
  obtain ⟨t', rfl⟩ := ry
  exact rule i j t t' s _ _ hc ⟨.int (g i j), H, I.tok _, ⟨_, rfl⟩, q⟩
theorem opI0 {f : Value → Value → Sem Value} {g : Int → Int → Int}
    (rule : ∀ (i j : Int) (t u : Tok) (s : Shared) (Q : Value → Shared → Prop) (E : Value → Shared → Prop), Q (.int (g i j) s.toks) { s with toks := s.toks + 1 } → wpAny (model X.prog X.w) X.A (f (.int i t) (.int j u)) Q E s) :
    OpR X f (rI0 fun i j => .int (g i j)) := by
  intro pins s σ H x y v u Q I rx ry h
  obtain ⟨i, j, rfl, rfl, q⟩ := h
  obtain ⟨t, rfl⟩ := rx
  obtain ⟨t', rfl⟩ := ry
  exact rule i j t t' s _ _ ⟨.int (g i j), H, I.tok _, ⟨_, rfl⟩, q⟩
theorem opB0 {f : Value → Value → Sem Value} {g : Int → Int → Bool}
    (rule : ∀ (i j : Int) (t u : Tok) (s : Shared) (Q : Value → Shared → Prop) (E : Value → Shared → Prop), Q (.bool (g i j)) s → wpAny (model X.prog X.w) X.A (f (.int i t) (.int j u)) Q E s) :
    OpR X f (rI0 fun i j => .bl (g i j)) := by
  intro pins s σ H x y v u Q I rx ry h
  obtain ⟨i, j, rfl, rfl, q⟩ := h
  obtain ⟨t, rfl⟩ := rx
  obtain ⟨t', rfl⟩ := ry
  exact rule i j t t' s _ _ ⟨.bl (g i j), H, I, rfl, q⟩

def CPow (i j : Int) : Prop := 0 ≤ j ∧ j ≤ 1000000 ∧ i.natAbs < 2 ^ 64
theorem op_add : OpR X (binaryOp .Add) (rI0 fun i j => .int (i + j)) := opI0 fun _ _ _ _ _ _ _ q => add_int q
theorem op_sub : OpR X (binaryOp .Sub) (rI0 fun i j => .int (i - j)) := opI0 fun _ _ _ _ _ _ _ q => sub_int q
theorem op_mod : OpR X (binaryOp .Mod) (rI (fun _ j => 0 < j) fun i j => .int (i % j)) := opI fun i j _ _ _ _ _ hc q => by
  have h1 : (0 : Int) < j := hc
  exact mod_int' (by omega) (by rw [Int.fmod_eq_emod_of_nonneg i (by omega)]; exact q)
theorem op_pow : OpR X (binaryOp .Pow) (rI CPow fun i j => .int (i ^ j.toNat)) := opI fun _ _ _ _ _ _ _ hc q => pow_int_small hc.1 hc.2.1 hc.2.2 q
theorem unI {f : Value → Sem Value} {g : Int → Int}
    (rule : ∀ (i : Int) (t : Tok) (s : Shared) (Q : Value → Shared → Prop) (E : Value → Shared → Prop), Q (.int (g i) s.toks) { s with toks := s.toks + 1 } → wpAny (model X.prog X.w) X.A (f (.int i t)) Q E s) :
    UnR X f (rU fun i => .int (g i)) := by
  intro pins s σ H x v Q I rx h
  obtain ⟨i, rfl, q⟩ := h
  obtain ⟨t, rfl⟩ := rx
  exact rule i t s _ _ ⟨.int (g i), H, I.tok _, ⟨_, rfl⟩, q⟩
theorem un_neg : UnR X (unaryOp .USub) (rU fun i => .int (-i)) := unI fun _ _ _ _ _ q => neg_int q
end

def scal : V → V → Bool
  | .non, .non => true | .non, .int _ => true | .int _, .non => true | .non, .bl _ => true | .bl _, .non => true | .non, .str _ => true | .str _, .non => true
  | .int _, .int _ => true | .bl _, .bl _ => true | .str _, .str _ => true | .byt _, .byt _ => true
  | .int _, .str _ => true | .str _, .int _ => true | .bl _, .str _ => true | .str _, .bl _ => true
  | _, _ => false
def rEq : R2 := fun x y H Q => scal x y = true ∧ Q (.bl (decide (x = y))) H
def rNe : R2 := fun x y H Q => scal x y = true ∧ Q (.bl (!decide (x = y))) H

theorem dec_int {i j : Int} : decide (V.int i = V.int j) = (i == j) := by
  rw [Bool.eq_iff_iff]
  simp
theorem dec_bl {i j : Bool} : decide (V.bl i = V.bl j) = (i == j) := by
  rw [Bool.eq_iff_iff]
  simp
theorem dec_str {i j : Str} : decide (V.str i = V.str j) = (i == j) := by
  rw [Bool.eq_iff_iff]
  simp
theorem dec_byt {i j : Array UInt8} : decide (V.byt i = V.byt j) = (i.toList == j.toList) := by
  rw [Bool.eq_iff_iff]
  cases i
  cases j
  simp

section
variable {X : Cx} {a b c : Expr} {ta tb tc : TE} {pos : Pos}
theorem fin_bl {pins : List (Addr × Obj)} {σ : St} {H : Hp} {s : Shared} {Q : VK} {k k' : Bool} (I : Inv X pins σ H s) (q : Q (.bl k) H) (e : k = k') : EP X pins σ Q (.bool k') s := by
  subst e
  exact ⟨.bl k, H, I, rfl, q⟩
theorem op_eq : OpR X (compareOp .Eq) rEq := by
  intro pins s σ H x y v u Q I rx ry h
  obtain ⟨hs, q⟩ := h
  cases x with
  | non =>
    cases rx
    cases y with
    | non => cases ry; exact PySem.EqNone.eq_none_none (fin_bl I q (by simp))
    | bl j => cases ry; exact PySem.EqNone.eq_none_bool (fin_bl I q (by simp))
    | int j => obtain ⟨t', rfl⟩ := ry; exact PySem.EqNone.eq_none_int (fin_bl I q (by simp))
    | str j => obtain ⟨t', rfl⟩ := ry; exact PySem.EqNone.eq_none_str (fin_bl I q (by simp))
    | _ => exact absurd (show false = true from hs) Bool.false_ne_true
  | bl i =>
    cases rx
    cases y with
    | non => cases ry; exact PySem.EqNone.eq_bool_none (fin_bl I q (by simp))
    | bl j => cases ry; exact eq_bool (fin_bl I q dec_bl)
    | str j => obtain ⟨t', rfl⟩ := ry; exact PySem.EqMixed.eq_bool_str (fin_bl I q (by simp))
    | _ => exact absurd (show false = true from hs) Bool.false_ne_true
  | int i =>
    obtain ⟨t, rfl⟩ := rx
    cases y with
    | non => cases ry; exact PySem.EqNone.eq_int_none (fin_bl I q (by simp))
    | int j => obtain ⟨t', rfl⟩ := ry; exact eq_int (fin_bl I q dec_int)
    | str j => obtain ⟨t', rfl⟩ := ry; exact PySem.EqMixed.eq_int_str (fin_bl I q (by simp))
    | _ => exact absurd (show false = true from hs) Bool.false_ne_true
  | str i =>
    obtain ⟨t, rfl⟩ := rx
    cases y with
    | non => cases ry; exact PySem.EqNone.eq_str_none (fin_bl I q (by simp))
    | bl j => cases ry; exact PySem.EqMixed.eq_str_bool (fin_bl I q (by simp))
    | int j => obtain ⟨t', rfl⟩ := ry; exact PySem.EqMixed.eq_str_int (fin_bl I q (by simp))
    | str j => obtain ⟨t', rfl⟩ := ry; exact eq_str (fin_bl I q dec_str)
    | _ => exact absurd (show false = true from hs) Bool.false_ne_true
  | byt i =>
    obtain ⟨t, rfl⟩ := rx
    cases y with
    | byt j => obtain ⟨t', rfl⟩ := ry; exact PySem.W.eq_bytes (fin_bl I q dec_byt)
    | _ => exact absurd (show false = true from hs) Bool.false_ne_true
  | _ => cases y <;> exact absurd (show false = true from hs) Bool.false_ne_true
theorem op_ne : OpR X (compareOp .NotEq) rNe := by
  intro pins s σ H x y v u Q I rx ry h
  obtain ⟨hs, q⟩ := h
  cases x with
  | non =>
    cases rx
    cases y with
    | non => cases ry; exact PySem.EqNone.ne_none_none (fin_bl I q (by simp))
    | bl j => cases ry; exact PySem.EqNone.ne_none_bool (fin_bl I q (by simp))
    | int j => obtain ⟨t', rfl⟩ := ry; exact PySem.EqNone.ne_none_int (fin_bl I q (by simp))
    | str j => obtain ⟨t', rfl⟩ := ry; exact PySem.EqNone.ne_none_str (fin_bl I q (by simp))
    | _ => exact absurd (show false = true from hs) Bool.false_ne_true
  | bl i =>
    cases rx
    cases y with
    | non => cases ry; exact PySem.EqNone.ne_bool_none (fin_bl I q (by simp))
    | bl j => cases ry; exact ne_bool (fin_bl I q (congrArg not dec_bl))
    | str j => obtain ⟨t', rfl⟩ := ry; exact PySem.EqMixed.ne_bool_str (fin_bl I q (by simp))
    | _ => exact absurd (show false = true from hs) Bool.false_ne_true
  | int i =>
    obtain ⟨t, rfl⟩ := rx
    cases y with
    | non => cases ry; exact PySem.EqNone.ne_int_none (fin_bl I q (by simp))
    | int j => obtain ⟨t', rfl⟩ := ry; exact ne_int (fin_bl I q (congrArg not dec_int))
    | str j => obtain ⟨t', rfl⟩ := ry; exact PySem.EqMixed.ne_int_str (fin_bl I q (by simp))
    | _ => exact absurd (show false = true from hs) Bool.false_ne_true
  | str i =>
    obtain ⟨t, rfl⟩ := rx
    cases y with
    | non => cases ry; exact PySem.EqNone.ne_str_none (fin_bl I q (by simp))
    | bl j => cases ry; exact PySem.EqMixed.ne_str_bool (fin_bl I q (by simp))
    | int j => obtain ⟨t', rfl⟩ := ry; exact PySem.EqMixed.ne_str_int (fin_bl I q (by simp))
    | str j => obtain ⟨t', rfl⟩ := ry; exact ne_str (fin_bl I q (congrArg not dec_str))
    | _ => exact absurd (show false = true from hs) Bool.false_ne_true
  | byt i =>
    obtain ⟨t, rfl⟩ := rx
    cases y with
    | byt j => obtain ⟨t', rfl⟩ := ry; exact PySem.W.ne_bytes (fin_bl I q (congrArg not dec_byt))
    | _ => exact absurd (show false = true from hs) Bool.false_ne_true
  | _ => cases y <;> exact absurd (show false = true from hs) Bool.false_ne_true

theorem op_lt : OpR X (compareOp .Lt) (rI0 fun i j => .bl (decide (i < j))) := opB0 fun _ _ _ _ _ _ _ q => lt_int q
theorem op_le : OpR X (compareOp .LtE) (rI0 fun i j => .bl (decide (i ≤ j))) := opB0 fun _ _ _ _ _ _ _ q => le_int q
theorem op_gt : OpR X (compareOp .Gt) (rI0 fun i j => .bl (decide (j < i))) := opB0 fun _ _ _ _ _ _ _ q => gt_int q
theorem op_ge : OpR X (compareOp .GtE) (rI0 fun i j => .bl (decide (j ≤ i))) := opB0 fun _ _ _ _ _ _ _ q => ge_int q
theorem op_in_str : OpR X (compareOp .In) (fun x y H Q => ∃ i j, x = .str i ∧ y = .str j ∧ Q (.bl (!(Builtin.Str.occurrences j i 0 j.length 1).isEmpty)) H) := by
  intro pins s σ H x y v u Q I rx ry h
  obtain ⟨i, j, rfl, rfl, q⟩ := h
  obtain ⟨t, rfl⟩ := rx
  obtain ⟨t', rfl⟩ := ry
  exact in_str (fin_bl I q rfl)

theorem op_isN : OpR X (compareOp .Is) (fun x y H Q => y = .non ∧ Q (.bl (decide (x = .non))) H) := by
  intro pins s σ H x y v u Q I rx ry h
  obtain ⟨rfl, q⟩ := h
  cases ry
  refine is_none_gen (fin_bl I q ?_)
  cases x <;> first
    | (cases rx; rfl)
    | (obtain ⟨t, rfl⟩ := rx; rfl)
theorem op_notN : OpR X (compareOp .IsNot) (fun x y H Q => y = .non ∧ Q (.bl (!decide (x = .non))) H) := by
  intro pins s σ H x y v u Q I rx ry h
  obtain ⟨rfl, q⟩ := h
  cases ry
  refine isnot_none_gen (fin_bl I q ?_)
  cases x <;> first
    | (cases rx; rfl)
    | (obtain ⟨t, rfl⟩ := rx; rfl)

theorem nomark (b : Expr) {op : CmpOp} (h : op ≠ .In := by decide) (h2 : op ≠ .NotIn := by decide) : behindInMarks op b = false := by
  have e1 : (op == CmpOp.In) = false := by cases op <;> first | rfl | exact absurd rfl h
  have e2 : (op == CmpOp.NotIn) = false := by cases op <;> first | rfl | exact absurd rfl h2
  cases b <;> simp [behindInMarks, e1, e2]
theorem pe_cmpR {op : CmpOp} {r : R2} (ho : OpR X (compareOp op) r) (ha : PE X a ta) (hb : PE X b tb) (hm : behindInMarks op b = false) : PE X (.Compare a [op] [b] pos) (tOp r ta tb) := by
  intro pins s σ H Q I h
  exact wpAny_Compare1 (binT ha hb I h fun v u s2 x y H2 I2 rx ry q => ho pins s2 σ H2 x y v u Q I2 rx ry q) hm
def tTest (t : TE) : TT := fun σ H Q => t σ H fun x H' => ∃ k, x = .bl k ∧ Q k H'
theorem pt_cmpR {op : CmpOp} {r : R2} (ho : OpR X (compareOp op) r) (ha : PE X a ta) (hb : PE X b tb) (hm : behindInMarks op b = false) : PT X (.Compare a [op] [b] pos) (tTest (tOp r ta tb)) := by
  intro pins s σ H Q I h
  refine wpAny_isTrue_Compare1 (thn (ha pins s σ H _ I h) fun v s1 ⟨x, H1, I1, r1, q1⟩ => thn (hb pins s1 σ H1 _ I1 q1) fun u s2 ⟨y, H2, I2, r2, q2⟩ =>
    thn (ho pins s2 σ H2 x y v u _ I2 r1 r2 q2) fun c s3 ⟨z, H3, I3, r3, k, e, q3⟩ => ?_) hm
  subst e
  cases r3
  exact wpAny_truthy_bool ⟨H3, I3, q3⟩
def tChain (r r' : R2) (ta tb tc : TE) : TE := fun σ H Q => ta σ H fun x H1 => tb σ H1 fun y H2 => r x y H2 fun z H3 => ∃ k, z = .bl k ∧
  (if k = true then tc σ H3 fun w' H4 => r' y w' H4 Q else Q (.bl false) H3)
theorem pe_chain {op op' : CmpOp} {r r' : R2} (ho : OpR X (compareOp op) r) (ho' : OpR X (compareOp op') r') (ha : PE X a ta) (hb : PE X b tb) (hc : PE X c tc)
    (hm : lastMarks [op, op'] [b, c] = false := by with_unfolding_all rfl) : PE X (.Compare a [op, op'] [b, c] pos) (tChain r r' ta tb tc) := by
  intro pins s σ H Q I h
  refine Compare_chain (thn (ha pins s σ H _ I h) fun v s1 ⟨x, H1, I1, r1, q1⟩ => chain_link (thn (hb pins s1 σ H1 _ I1 q1) fun u s2 ⟨y, H2, I2, r2, q2⟩ =>
    thn (ho pins s2 σ H2 x y v u _ I2 r1 r2 q2) fun d s3 ⟨z, H3, I3, r3, k, e, q3⟩ => ?_)) hm
  subst e
  cases r3
  refine wpAny_truthy_bool ?_
  cases k with
  | false => exact ite_ff ⟨.bl false, H3, I3, rfl, q3⟩
  | true => exact ite_tt (chain_last (thn (hc pins s3 σ H3 _ I3 q3) fun w' s4 ⟨z', H4, I4, r4, q4⟩ => ho' pins s4 σ H4 y z' u w' Q I4 r2 r4 q4))
theorem line63 : (sizeLine : Nat) < 2 ^ 63 := by rw [sizeLine_eq]; decide
theorem op_add_str : OpR X (binaryOp .Add) (fun x y H Q => ∃ i j, x = .str i ∧ y = .str j ∧ i.length + j.length ≤ sizeLine ∧ Q (.str (i ++ j)) H) := by
  intro pins s σ H x y v u Q I rx ry h
  obtain ⟨i, j, rfl, rfl, hz, q⟩ := h
  obtain ⟨t, rfl⟩ := rx
  obtain ⟨t', rfl⟩ := ry
  exact add_str (fun t' tk => ⟨.str (i ++ j), H, I.tok _, ⟨_, rfl⟩, q⟩) hz
theorem vals1 {x : V} {us : List Value} (r : Vals [x] us) : ∃ u, us = [u] ∧ RelV x u := by
  cases r with
  | cons r1 r2 => cases r2; exact ⟨_, rfl, r1⟩
theorem vals2 {x y : V} {us : List Value} (r : Vals [x, y] us) : ∃ u w', us = [u, w'] ∧ RelV x u ∧ RelV y w' := by
  cases r with
  | cons r1 r2 =>
    cases r2 with
    | cons r3 r4 => cases r4; exact ⟨_, _, rfl, r1, r3⟩
theorem call_min2 (hc : X.calm = true) : CallR X (.builtin "min") (fun xs H Q => ∃ i j, xs = [.int i, .int j] ∧ Q (.int (if j < i then j else i)) H) := by
  intro pins s σ H xs us Q I r h
  obtain ⟨i, j, rfl, q⟩ := h
  obtain ⟨u, w', rfl, ⟨t, rfl⟩, ⟨t', rfl⟩⟩ := vals2 r
  refine min_two_ints (I.ok.hd hc) fun h' tk k => ⟨_, H, I.kept k, ?_, q⟩
  by_cases hj : j < i
  · rw [if_pos hj, if_pos hj]; exact ⟨_, rfl⟩
  · rw [if_neg hj, if_neg hj]; exact ⟨_, rfl⟩
theorem call_str_int : CallR X (.type "str") (fun xs H Q => ∃ i, xs = [.int i] ∧ i.natAbs.log2 < 1920 ∧ Q (.str (toString i)) H) := by
  intro pins s σ H xs us Q I r h
  obtain ⟨i, rfl, hz, q⟩ := h
  obtain ⟨u, rfl, t, rfl⟩ := vals1 r
  exact PySem.P.str_of_int hz ⟨.str _, H, I.tok _, ⟨_, rfl⟩, q⟩
end
end L2

namespace L2
open PySem PySem.Spec PyProof.Rows

structure ObjM (h : Heap) (x dx C : Addr) (mA : Str → Option Value) : Prop where
  obj : h.get? x = some (PySem.W.instObj C dx)
  ns : h.Ns1 dx mA
  ne : dx ≠ x

theorem lookIn_ns {h : Heap} {dx : Addr} {mA : Str → Option Value} (n : h.Ns1 dx mA) : ∃ od, h.get? dx = some od ∧ ∀ name, PySem.W.lookIn name od = some (mA name) := by
  obtain ⟨o, es, ep, ho, hd, hk, _, hm⟩ := n
  refine ⟨o, ho, fun name => ?_⟩
  have e := hm name
  unfold nsFind findBy at e
  rw [← Array.find?_toList] at e
  unfold PySem.W.lookIn
  rw [hd]
  dsimp only
  split
  · rename_i y q
    rw [q] at e
    exact congrArg some e
  · rename_i q
    rw [q] at e
    have a : es.toList.any (·.refKey) = false := by
      rw [List.any_eq_false]
      intro y hy
      obtain ⟨z, t, hkey⟩ := hk y (Array.mem_toList_iff.mp hy)
      simp [DictEntry.refKey, hkey]
    have a' : ¬ es.toList.any (·.refKey) = true := by rw [a]; exact Bool.false_ne_true
    rw [if_neg a']
    exact congrArg some e

theorem ObjM.look {h : Heap} {x dx C : Addr} {mA : Str → Option Value} (I : ObjM h x dx C mA) : ∃ od, PySem.W.InstAt h x (PySem.W.instObj C dx) C (some od) ∧ ∀ name, PySem.W.lookIn name od = some (mA name) :=
  let ⟨od, ho, hl⟩ := lookIn_ns I.ns
  ⟨od, ⟨I.obj, rfl, rfl, ho⟩, hl⟩

section
variable {prog : Program} {w : World} {A : Around} {E : Value → Shared → Prop} {s : Shared} {K : PySem.W.Frag} {x dx C f : Addr} {mA : Str → Option Value} {name : Str} {v : Value}

theorem get_map {expr : Bool} {Q : Value → Shared → Prop} (X : K.In s.heap) (I : ObjM s.heap x dx C mA) (hg : PySem.W.plainGet K C name = true) (hh : PySem.W.hasDictIn K C = true)
    (ha : PySem.W.findIn K (.ref C) name = some none) (hv : mA name = some v) (hv' : PySem.W.handedIn v = true) (h : Q v { s with toks := s.toks + 1 }) :
    wpAny (model prog w) A (getAttr (.ref x) name expr) Q E s := by
  obtain ⟨od, J, hl⟩ := I.look
  exact PySem.W.get_value X J (PySem.W.plainGet_of hg).1 (PySem.W.findObj_own hh ha rfl (by rw [hl, hv])) hv' h

theorem get_meth {pl : Sem Bool} {Q : Value × List Value → Shared → Prop} (X : K.In s.heap) (I : ObjM s.heap x dx C mA) (hg : PySem.W.plainGet K C name = true)
    (hf : PySem.W.findIn K (.ref C) name = some (some (.ref f))) (ht : PySem.W.isFn K (.ref f) = true) (hv : mA name = none) (h : Q (.ref f, [.ref x]) s) :
    wpAny (model prog w) A (getMethod (.ref x) name pl) Q E s := by
  obtain ⟨od, J, hl⟩ := I.look
  exact PySem.W.method_fn X J (PySem.W.plainGet_of hg).1 (PySem.W.plainGet_of hg).2 hf (beq_iff_eq.mp ht) (by show (PySem.W.lookIn name od).map (·.isSome) = some false; rw [hl, hv]; rfl) h

theorem set_map {ns : List Str} {Q : Unit → Shared → Prop} (X : K.In s.heap) (I : ObjM s.heap x dx C mA)
    (hs : PySem.W.findIn K (.ref C) "__setattr__" = some (some (.builtin "object.__setattr__"))) (hp : PySem.W.plainOver K C = true) (ht : PySem.W.takerIn K C name = some none) (hh : PySem.W.hasDictIn K C = true)
    (hw : PySem.Within mA ns) (hsz : ns.length ≤ sizeLine)
    (h : ∀ h', ObjM h' x dx C (fun y => if y = name then some v else mA y) → Heap.SameBut dx s.heap h' → Q () { s with heap := h', toks := s.toks + 2 }) :
    wpAny (model prog w) A (setAttr (.ref x) name v) Q E s := by
  obtain ⟨od, J, hl⟩ := I.look
  refine PySem.W.set_plain X J hs (PySem.W.osa_open (s := { s with toks := s.toks + 1 }) (r := none) X J hp ht fun b => ?_)
  obtain ⟨cd, hc, hd'⟩ := PySem.W.any_some hh
  have hx : s.heap.get? x = some ⟨.ref C, some dx, .plain, #[]⟩ := I.obj
  refine wpAny_bind (wpAny_pure (wpAny_bind (wpAny_bind (wpAny_loadPart hx (wpAny_bind (PySem.W.Looks.here (s := { s with toks := s.toks + 1 }) (PySem.W.looks_clsIn X hc) ?_))))))
  rw [hd']
  refine wpAny_pure (a := some dx) (wpAny_bind (wpAny_pure (wpAny_bind ?_)))
  refine wpAny_nsSet1 (s := { s with toks := s.toks + 1 }) I.ns fun h' hn2 hs2 => ?_
  obtain ⟨oD, esD, epD, hoD, hdD, hcD⟩ := hn2.count (PySem.Within.cons name v hw)
  refine wpAny_bind (wpAny_lookBehind hoD (by rw [hdD]; exact pastItsLine_dict (Nat.le_trans hcD (by rw [List.length_cons]; omega))) ?_)
  exact wpAny_pure (h _ ⟨(hs2.2 _ (Ne.symm I.ne)).trans I.obj, hn2, I.ne⟩ hs2)

theorem make_map {R : Result → Shared → Prop} {vs : List Value} {kw : List (Str × Value)} (X : K.In s.heap) (hm : PySem.W.makesIn K C = true)
    (hi : PySem.W.findIn K (.ref C) "__init__" = some (some (.ref f))) (hf : PySem.W.typeIn K (.ref f) = some (.type "function"))
    (h : codeAny (model prog w) (A.under (.builtin "type.__call__" ⟨.ref C :: vs, kw⟩)) (.call (.ref f) ⟨.ref (s.heap.objs.size + 1) :: vs, kw⟩) (PySem.W.InitBack (s.heap.objs.size + 1) R)
      { s with heap := (s.heap.push PySem.W.emptyDict).push (PySem.W.instObj C s.heap.objs.size) }) :
    codeAny (model prog w) A (.call (.ref C) ⟨vs, kw⟩) R s := by
  obtain ⟨hh, g, d, t, os⟩ := s
  exact PySem.W.make_core (PySem.W.makes_of X hm) (PySem.W.looks_findIn X hi) (fun self => PySem.W.bind_fn X self hf) (.inl rfl) h
end

def putF (f : Str) (v : V) : List (Str × V) → List (Str × V)
  | [] => [(f, v)]
  | (g, x) :: r => if g = f then (g, v) :: r else (g, x) :: putF f v r
theorem lookup_putF (f g : Str) (v : V) : ∀ fs : List (Str × V), (putF f v fs).lookup g = if g = f then some v else fs.lookup g
  | [] => by
    show List.lookup g [(f, v)] = _
    by_cases h : g = f
    · have hb : (g == f) = true := beq_iff_eq.mpr h
      simp only [List.lookup, hb, if_pos h]
    · have hb : (g == f) = false := beq_eq_false_iff_ne.mpr h
      simp only [List.lookup, hb, if_neg h]
  | (k, x) :: r => by
    have ih := lookup_putF f g v r
    rw [show putF f v ((k, x) :: r) = (if k = f then (k, v) :: r else (k, x) :: putF f v r) from rfl]
    by_cases hk : k = f
    · rw [if_pos hk]
      by_cases h : g = k
      · have hb : (g == k) = true := beq_iff_eq.mpr h
        simp only [List.lookup, hb, if_pos (h.trans hk)]
      · have hb : (g == k) = false := beq_eq_false_iff_ne.mpr h
        simp only [List.lookup, hb, if_neg (fun e : g = f => h (e.trans hk.symm))]
    · rw [if_neg hk]
      by_cases h : g = k
      · have hb : (g == k) = true := beq_iff_eq.mpr h
        simp only [List.lookup, hb, if_neg (fun e : g = f => hk (h.symm.trans e))]
      · have hb : (g == k) = false := beq_eq_false_iff_ne.mpr h
        simp only [List.lookup, hb]
        exact ih
theorem keys_putF (f : Str) (v : V) : ∀ fs : List (Str × V), f ∈ (putF f v fs).map (·.1) ∧ ∀ g, g ∈ fs.map (·.1) → g ∈ (putF f v fs).map (·.1)
  | [] => ⟨by simp [putF], fun g h => by simp at h⟩
  | (k, x) :: r => by
    obtain ⟨i1, i2⟩ := keys_putF f v r
    rw [show putF f v ((k, x) :: r) = (if k = f then (k, v) :: r else (k, x) :: putF f v r) from rfl]
    by_cases hk : k = f
    · rw [if_pos hk]
      subst hk
      exact ⟨by simp, fun g h => by simpa using h⟩
    · rw [if_neg hk]
      refine ⟨?_, fun g h => ?_⟩
      · rw [List.map_cons]
        exact List.mem_cons_of_mem _ i1
      · rw [List.map_cons] at h ⊢
        rcases List.mem_cons.mp h with e | e
        · exact List.mem_cons.mpr (.inl e)
        · exact List.mem_cons_of_mem _ (i2 g e)
theorem length_putF (f : Str) (v : V) : ∀ fs : List (Str × V), (putF f v fs).length ≤ fs.length + 1
  | [] => by simp [putF]
  | (k, x) :: r => by
    have ih := length_putF f v r
    rw [show putF f v ((k, x) :: r) = (if k = f then (k, v) :: r else (k, x) :: putF f v r) from rfl]
    by_cases hk : k = f
    · rw [if_pos hk, List.length_cons, List.length_cons]; omega
    · rw [if_neg hk, List.length_cons, List.length_cons]; omega

theorem RelO.some_of {v : V} {o : Option Value} (r : RelO (some v) o) : ∃ u, o = some u ∧ RelV v u := by
  cases o with
  | none => exact (show False from r).elim
  | some u => exact ⟨u, rfl, r⟩
theorem RelO.none_of {o : Option Value} (r : RelO none o) : o = none := by
  cases o with
  | none => rfl
  | some u => exact (show False from r).elim
theorem handed_of {v : V} {u : Value} (r : RelV v u) : PySem.W.handedIn u = true := by
  cases v with
  | non => cases (show u = Value.none from r); rfl
  | bl b => cases (show u = Value.bool b from r); rfl
  | int i => obtain ⟨t, e⟩ := (show ∃ t, u = Value.int i t from r); cases e; rfl
  | str x => obtain ⟨t, e⟩ := (show ∃ t, u = Value.str x t from r); cases e; rfl
  | byt b => obtain ⟨t, e⟩ := (show ∃ t, u = Value.bytes b t from r); cases e; rfl
  | flt b => obtain ⟨t, e⟩ := (show ∃ t, u = Value.float b t from r); cases e; rfl
  | ref a => cases (show u = Value.ref a from r); rfl
  | ty n => cases (show u = Value.type n from r); rfl

section
variable {P : Program} {w : World} {H H' : Hp} {h h' : Heap} {a C dx : Addr} {fs fs' : List (Str × V)}
theorem ins_get (hok : HOk P w H h) (e : H a = some (.ins C dx fs)) : ∃ mA, ObjM h a dx C mA ∧ (∀ f, RelO (fs.lookup f) (mA f)) ∧ PySem.Within mA (fs.map (·.1)) ∧ fs.length ≤ 1000 ∧ H dx = some (.own a) := by
  obtain ⟨d, z, ne, ob, mA, n, r, q⟩ := (show ObjOk P w H h a (.ins C dx fs) from hok a _ e)
  exact ⟨mA, ⟨ob, n, ne⟩, r, q, z, d⟩
end

structure Cls (K : PySem.W.Frag) (C : Addr) : Prop where
  pg : PySem.W.plainGet K C Str.empty = true
  hd : PySem.W.hasDictIn K C = true
  po : PySem.W.plainOver K C = true
  sa : PySem.W.findIn K (.ref C) "__setattr__" = some (some (.builtin "object.__setattr__"))
theorem Cls.get {K : PySem.W.Frag} {C : Addr} (c : Cls K C) (f : Str) : PySem.W.plainGet K C f = true := c.pg
def NoAttr (K : PySem.W.Frag) (C : Addr) (f : Str) : Prop := PySem.W.findIn K (.ref C) f = some none
theorem NoAttr.taker {K : PySem.W.Frag} {C : Addr} {f : Str} (n : NoAttr K C f) : PySem.W.takerIn K C f = some none := by
  unfold PySem.W.takerIn
  rw [show PySem.W.findIn K (.ref C) f = some none from n]
  rfl
structure Meth (K : PySem.W.Frag) (C : Addr) (m : Str) (f : Addr) : Prop where
  at_ : PySem.W.findIn K (.ref C) m = some (some (.ref f))
  fn : PySem.W.isFn K (.ref f) = true
  kp : PySem.W.keepIn K (.ref f) = true

section
variable {X : Cx} {pins : List (Addr × Obj)} {σ : St} {H : Hp} {s : Shared} {a C dx : Addr} {fs : List (Str × V)} {f : Str} {v : V} {A : Around} {E : Value → Shared → Prop}

theorem getattr_ok {b : Bool} {Q : Value → Shared → Prop} (I : Inv X pins σ H s) (e : H a = some (.ins C dx fs)) (c : Cls X.K C) (n : NoAttr X.K C f) (l : fs.lookup f = some v)
    (h : ∀ u s', Inv X pins σ H s' → RelV v u → Q u s') : wpAny (model X.prog X.w) A (getAttr (.ref a) f b) Q E s := by
  obtain ⟨mA, O, r, _, _, _⟩ := ins_get I.hok e
  obtain ⟨u, hu, ru⟩ := RelO.some_of (v := v) (o := mA f) (by rw [← l]; exact r f)
  exact get_map I.kIn O (c.get f) c.hd n hu (handed_of ru) (h u _ (I.tok _) ru)

theorem getmeth_ok {m : Str} {g : Addr} {pl : Sem Bool} {Q : Value × List Value → Shared → Prop} (I : Inv X pins σ H s) (e : H a = some (.ins C dx fs)) (c : Cls X.K C) (k : Meth X.K C m g) (l : fs.lookup m = none)
    (h : Q (.ref g, [.ref a]) s) : wpAny (model X.prog X.w) A (getMethod (.ref a) m pl) Q E s := by
  obtain ⟨mA, O, r, _, _, _⟩ := ins_get I.hok e
  have hn : mA m = none := RelO.none_of (by rw [← l]; exact r m)
  exact get_meth I.kIn O (c.get m) k.at_ k.fn hn h

theorem setattr_ok {y : V} {u : Value} {Q : Unit → Shared → Prop} (I : Inv X pins σ H s) (e : H a = some (.ins C dx fs)) (c : Cls X.K C) (n : NoAttr X.K C f) (hl : fs.length < 1000) (ry : RelV y u)
    (h : ∀ s', Inv X pins σ (upd H a (.ins C dx (putF f y fs))) s' → Q () s') : wpAny (model X.prog X.w) A (setAttr (.ref a) f u) Q E s := by
  obtain ⟨mA, O, r, wi, _, ho⟩ := ins_get I.hok e
  have hz : (fs.map (·.1)).length ≤ sizeLine := by rw [List.length_map, sizeLine_eq]; omega
  refine set_map I.kIn O c.sa c.po n.taker c.hd wi hz fun h' O' sb => h _ ?_
  have hd : ∃ o, h'.get? dx = some o := let ⟨o, _, _, e', _⟩ := O'.ns; ⟨o, e'⟩
  refine I.write (x := a) (e := dx) (by rw [e]; exact True.intro) (.inr ho) (fun b q hb z => (sb.2 b hb).trans z) hd ?_
  refine ⟨by rw [upd_ne O.ne]; exact ho, ?_, O.ne, O'.obj, _, O'.ns, fun g => ?_, fun g hg => ?_⟩
  · have := length_putF f y fs; omega
  · show RelO ((putF f y fs).lookup g) (if g = f then some u else mA g)
    rw [lookup_putF]
    by_cases q : g = f
    · rw [if_pos q, if_pos q]; exact ry
    · rw [if_neg q, if_neg q]; exact r g
  · by_cases q : g = f
    · rw [q]; exact (keys_putF f y fs).1
    · refine (keys_putF f y fs).2 g (wi g fun z => hg ?_)
      show (if g = f then some u else mA g) = none
      rw [if_neg q]; exact z

theorem Inv.made (I : Inv X pins σ H s) : Inv X pins σ (upd (upd H s.heap.objs.size (.own (s.heap.objs.size + 1))) (s.heap.objs.size + 1) (.ins C s.heap.objs.size []))
    { s with heap := (s.heap.push PySem.W.emptyDict).push (PySem.W.instObj C s.heap.objs.size) } := by
  have e1 : (s.heap.push PySem.W.emptyDict).get? s.heap.objs.size = some PySem.W.emptyDict := Heap.get?_push_size s.heap rfl
  have e2 : ((s.heap.push PySem.W.emptyDict).push (PySem.W.instObj C s.heap.objs.size)).get? (s.heap.objs.size + 1) = some (PySem.W.instObj C s.heap.objs.size) := by
    have := Heap.get?_push_size (s.heap.push PySem.W.emptyDict) (o := PySem.W.instObj C s.heap.objs.size) rfl
    rwa [Heap.size_push] at this
  have e3 : (s.heap.push PySem.W.emptyDict).Ns s.heap.objs.size (fun _ => none) := ⟨PySem.W.emptyDict, #[], _, e1, rfl, (fun e he => absurd he (by simp)), fun _ => rfl⟩
  have I1 := I.laid (a := s.heap.objs.size) (o := .own (s.heap.objs.size + 1)) (h' := s.heap.push PySem.W.emptyDict) (t' := s.toks) (fun b u q => Heap.get?_push_of_some _ q) (Nat.le_refl _) ⟨_, e1⟩
  refine I1.laid (a := s.heap.objs.size + 1) (o := .ins C s.heap.objs.size []) (t' := s.toks) (fun b u q => Heap.get?_push_of_some _ q) (Nat.le_of_eq (Heap.size_push _ _)) ?_
  have ne : s.heap.objs.size ≠ s.heap.objs.size + 1 := Nat.ne_of_lt (Nat.lt_succ_self _)
  refine ⟨by rw [upd_ne ne, upd_same], Nat.zero_le _, ne, e2, fun _ => none, (Heap.Ns1.of_empty e3).at fun o q => Heap.get?_push_of_some _ q, fun _ => True.intro, fun y hy => absurd rfl hy⟩

theorem attr_of {prog : Program} {w : World} {env : Env} {e : Expr} {f : Str} {pos : Pos} {s : Shared} {Q : Value → Shared → Prop} (hb : attributeBase e f env (eval e env) = eval e env)
    (h : wpAny (model prog w) A (eval e env) (fun o s₁ => wpAny (model prog w) A (getAttr o f true) Q E s₁) E s) : wpAny (model prog w) A (eval (.Attribute e f pos) env) Q E s :=
  Attribute_any_ h (by rw [arm_eval_Attribute, hb])
end

def tFld (K : PySem.W.Frag) (ta : TE) (f : Str) : TE := fun σ H Q => ta σ H fun x H1 => ∃ a C dx fs v, x = .ref a ∧ H1 a = some (.ins C dx fs) ∧ Cls K C ∧ NoAttr K C f ∧ fs.lookup f = some v ∧ Q v H1
def sFld (K : PySem.W.Frag) (ta tv : TE) (f : Str) : TS := fun D σ H => tv σ H fun y H1 => ta σ H1 fun x H2 => ∃ a C dx fs, x = .ref a ∧ H2 a = some (.ins C dx fs) ∧ Cls K C ∧ NoAttr K C f ∧ fs.length < 1000 ∧
  D.nx σ (upd H2 a (.ins C dx (putF f y fs)))
def InOp (X : Cx) (op : Operator) (rd : V → V → Hp → VK → Prop) : Prop :=
  ∀ (pins : List (Addr × Obj)) (s : Shared) (σ : St) (H : Hp) (x y : V) (u v : Value) (Q : VK), Inv X pins σ H s → RelV x u → RelV y v → rd x y H Q → wpAny (model X.prog X.w) X.A (inplaceOp op u v) (EP X pins σ Q) X.xe s
def sFldAug (K : PySem.W.Frag) (ta tv : TE) (rd : V → V → Hp → VK → Prop) (f : Str) : TS := fun D σ H => ta σ H fun x H1 => ∃ a C dx fs v, x = .ref a ∧ H1 a = some (.ins C dx fs) ∧ Cls K C ∧ NoAttr K C f ∧ fs.lookup f = some v ∧
  tv σ H1 fun y H2 => rd v y H2 fun z H3 => ∃ dx' fs', H3 a = some (.ins C dx' fs') ∧ fs'.length < 1000 ∧ D.nx σ (upd H3 a (.ins C dx' (putF f z fs')))

section
variable {X : Cx} {o e value : Expr} {f : Str} {pos pos' tpos : Pos} {ta tv : TE}
theorem pe_fld (he : PE X e ta) (hb : attributeBase e f X.env (eval e X.env) = eval e X.env) : PE X (.Attribute e f pos) (tFld X.K ta f) := by
  intro pins s σ H Q I h
  refine attr_of hb (thn (he pins s σ H _ I h) fun u s1 ⟨x, H1, I1, rx, a, C, dx, fs, v, ex, ea, c, n, l, q⟩ => ?_)
  subst ex
  obtain rfl : u = Value.ref a := rx
  exact getattr_ok I1 ea c n l fun u' s2 I2 ru => ⟨v, H1, I2, ru, q⟩
theorem ps_fld (ha : PE X o ta) (hv : PE X value tv) (hs : swapsWith value (some (.Attribute o f pos')) pos.line X.env = pure false) : PS X (.Assign [.Attribute o f pos'] value pos) (sFld X.K ta tv f) := by
  intro pins s σ H D I h
  refine plainObj_wpAny_Assign_Attribute (thn (hv pins s σ H _ I h) fun u s1 ⟨y, H1, I1, ry, q⟩ => thn (ha pins s1 σ H1 _ I1 q) fun ov s2 ⟨x, H2, I2, rx, a, C, dx, fs, ex, ea, c, n, l, q2⟩ => ?_) hs
  subst ex
  obtain rfl : ov = Value.ref a := rx
  exact setattr_ok I2 ea c n l ry fun s3 I3 => ⟨σ, _, I3, q2⟩
theorem ps_fldaug {op : Operator} {rd : V → V → Hp → VK → Prop} (ha : PE X o ta) (hv : PE X value tv) (hop : InOp X op rd) : PS X (.AugAssign (.Attribute o f tpos) op value pos) (sFldAug X.K ta tv rd f) := by
  intro pins s σ H D I h
  refine wpAny_AugAssign_AttributeAny (thn (ha pins s σ H _ I h) fun ov s1 ⟨x, H1, I1, rx, a, C, dx, fs, v, ex, ea, c, n, l, q⟩ => ?_)
  subst ex
  obtain rfl : ov = Value.ref a := rx
  refine getattr_ok I1 ea c n l fun u s2 I2 ru => thn (hv pins s2 σ H1 _ I2 q) fun w3 s3 ⟨y, H2, I3, ry, q3⟩ => thn (hop pins s3 σ H2 v y u w3 _ I3 ru ry q3) fun w4 s4 ⟨z, H3, I4, rz, dx', fs', ea', l', q4⟩ => ?_
  exact setattr_ok I4 ea' c n l' rz fun s5 I5 => ⟨σ, _, I5, q4⟩
def rAdd : V → V → Hp → VK → Prop := fun x y H Q => ∃ i j, x = .int i ∧ y = .int j ∧ Q (.int (i + j)) H
theorem in_add : InOp X .Add rAdd := by
  rintro pins s σ H x y u v Q I rx ry ⟨i, j, rfl, rfl, q⟩
  obtain ⟨t, rfl⟩ := (show ∃ t, u = Value.int i t from rx)
  obtain ⟨t', rfl⟩ := (show ∃ t', v = Value.int j t' from ry)
  exact PyProof.Rows.iadd_int ⟨.int (i + j), H, I.tok _, ⟨_, rfl⟩, q⟩
end

section
variable {X : Cx} {pins : List (Addr × Obj)} {σ : St} {H : Hp} {s : Shared} {A : Around} {E : Value → Shared → Prop} {Q : Value → Shared → Prop} {c : Value} {b : Bool}
inductive TyOf (K : PySem.W.Frag) (H : Hp) : V → Value → Prop where
  | non : TyOf K H .non (.type "NoneType")
  | bl (x : Bool) : TyOf K H (.bl x) (.type "bool")
  | int (i : Int) : TyOf K H (.int i) (.type "int")
  | str (x : Str) : TyOf K H (.str x) (.type "str")
  | flt (x : UInt64) : TyOf K H (.flt x) (.type "float")
  | lst {a : Addr} {xs : List V} (e : H a = some (.lst xs)) : TyOf K H (.ref a) (.type "list")
  | frz {a : Addr} {o : Obj} {xs : List V} (e : H a = some (.frz o (.lst xs))) : TyOf K H (.ref a) (.type "list")
  | tup {a : Addr} {xs : List V} (e : H a = some (.tup xs)) : TyOf K H (.ref a) (.type "tuple")
  | dK {a : Addr} {kvs : List (Key × V)} (e : H a = some (.dK kvs)) : TyOf K H (.ref a) (.type "dict")
  | dT {a : Addr} {kvs : List (List Key × V)} (e : H a = some (.dT kvs)) : TyOf K H (.ref a) (.type "dict")
  | ins {a C dx : Addr} {fs : List (Str × V)} (e : H a = some (.ins C dx fs)) (cl : Cls K C) (ha : PySem.W.findIn K (.ref C) "__class__" = some (some (.builtin "object.__class__")))
      (hn : PySem.W.specialIn K (.builtin "object.__class__") "__get__" = some (some (.builtin "getset_descriptor.__get__"))) (htk : PySem.W.takesIn K (.builtin "object.__class__") = some true)
      (hm : PySem.W.mroIn K C (.type "object") = some true) : TyOf K H (.ref a) (.ref C)
theorem isinst_ok {x : V} {u t : Value} (I : Inv X pins σ H s) (rx : RelV x u) (ty : TyOf X.K H x t) (e : PySem.W.kitOne X.K t c = some b) (h : ∀ tk, Q (.bool b) { s with toks := tk }) :
    wpAny (model X.prog X.w) A (call (.builtin "isinstance") [u, c]) Q E s := by
  cases ty with
  | non => cases (show u = Value.none from rx); exact PySem.W.kia_one PySem.W.kitx_none I.kIn True.intro e (fun z => nomatch z) h
  | bl y => cases (show u = Value.bool y from rx); exact PySem.W.kia_one PySem.W.kitx_bool I.kIn True.intro e (fun z => nomatch z) h
  | int i => obtain ⟨t, q⟩ := (show ∃ t, u = Value.int i t from rx); cases q; exact PySem.W.kia_one PySem.W.kitx_int I.kIn True.intro e (fun z => nomatch z) h
  | str y => obtain ⟨t, q⟩ := (show ∃ t, u = Value.str y t from rx); cases q; exact PySem.W.kia_one PySem.W.kitx_str I.kIn True.intro e (fun z => nomatch z) h
  | flt y => obtain ⟨t, q⟩ := (show ∃ t, u = Value.float y t from rx); cases q; exact PySem.W.kia_one PySem.W.kitx_float I.kIn True.intro e (fun z => nomatch z) h
  | @lst a xs ea =>
    cases (show u = Value.ref a from rx)
    obtain ⟨_, _, n, _, h1⟩ := (show ObjOk X.prog X.w H s.heap a (.lst xs) from I.hok a _ ea)
    exact PySem.W.kia_one PySem.W.kitx_list I.kIn ⟨_, h1, rfl⟩ e (fun z => nomatch z) h
  | @frz a ob xs ea =>
    cases (show u = Value.ref a from rx)
    obtain ⟨_, _, _, n, _, h1⟩ := (show ObjOk X.prog X.w H s.heap a (.frz ob (.lst xs)) from I.hok a _ ea)
    exact PySem.W.kia_one PySem.W.kitx_list I.kIn ⟨_, h1, rfl⟩ e (fun z => nomatch z) h
  | @tup a xs ea =>
    cases (show u = Value.ref a from rx)
    obtain ⟨_, _, _, p⟩ := (show ObjOk X.prog X.w H s.heap a (.tup xs) from I.hok a _ ea)
    obtain ⟨o, h1, h2, _⟩ := p
    exact PySem.W.kia_one PySem.W.kitx_tuple I.kIn ⟨o, h1, h2⟩ e (fun z => nomatch z) h
  | @dK a kvs ea =>
    cases (show u = Value.ref a from rx)
    obtain ⟨_, _, vs, _, p⟩ := (show ObjOk X.prog X.w H s.heap a (.dK kvs) from I.hok a _ ea)
    obtain ⟨o, es, ep, h1, h2, _⟩ := p
    exact PySem.W.kia_one PySem.W.kitx_dict I.kIn ⟨o, h1, h2.1⟩ e (fun z => nomatch z) h
  | @dT a kvs ea =>
    cases (show u = Value.ref a from rx)
    obtain ⟨_, _, xs, _, o, es, ep, h1, h2, _⟩ := (show ObjOk X.prog X.w H s.heap a (.dT kvs) from I.hok a _ ea)
    exact PySem.W.kia_one PySem.W.kitx_dict I.kIn ⟨o, h1, h2.1⟩ e (fun z => nomatch z) h
  | @ins a C dx fs ea cl ha hn htk hm =>
    cases (show u = Value.ref a from rx)
    obtain ⟨mA, O, _⟩ := ins_get I.hok ea
    obtain ⟨od, J, _⟩ := O.look
    exact PySem.W.kia_one (PySem.W.kitx_own (cl.get _) cl.hd ha hn htk hm) I.kIn J e (fun z => nomatch z) h
end
end L2

namespace L2
open PySem PySem.Spec PyProof.Rows

structure Room (k : Nat) (A : Around) : Prop where
  hd : A.handled = none
  dp : A.depth + 3 * k + 5 < recursionLimit
  un : A.units + 16 * k + 200 < cLine
theorem Room.mono {j k : Nat} {A : Around} (r : Room k A) (h : j ≤ k) : Room j A := ⟨r.hd, by have := r.dp; omega, by have := r.un; omega⟩
theorem Room.deeper {k : Nat} {A : Around} (r : Room (k + 1) A) (env : Env) : Room k (A.deeper env) :=
  ⟨r.hd, by have := r.dp; show A.depth + 1 + 3 * k + 5 < _; omega, by have := r.un; show A.units + 3 + 16 * k + 200 < _; omega⟩
theorem Room.in1 {k : Nat} {A : Around} (r : Room (k + 1) A) : Room k A.in1 :=
  ⟨r.hd, by have := r.dp; show A.depth + 3 * k + 5 < _; omega, by have := r.un; show A.units + 1 + 16 * k + 200 < _; omega⟩
theorem make_depth {A : Around} {C : Addr} {us : List Value} {kw : List (Str × Value)} : (A.under (.builtin "type.__call__" ⟨.ref C :: us, kw⟩)).depth = A.depth + 1 := by
  first | rfl | simp [Around.under, Code.weight, Code.isCreation, Code.isGuard, Code.isCaller, Code.frames, Code.isFrame, guardIds]
theorem make_units {A : Around} {C : Addr} {us : List Value} {kw : List (Str × Value)} : (A.under (.builtin "type.__call__" ⟨.ref C :: us, kw⟩)).units = A.units + 1 := by
  first | rfl | simp [Around.under, Code.cUnits, Code.frames, Code.isFrame]
theorem Room.make {k : Nat} {A : Around} (r : Room (k + 1) A) (C : Addr) (us : List Value) (kw : List (Str × Value)) : Room k (A.under (.builtin "type.__call__" ⟨.ref C :: us, kw⟩)) :=
  ⟨r.hd, by have := r.dp; rw [make_depth]; omega, by have := r.un; rw [make_units]; omega⟩
theorem Room.depth {k : Nat} {A : Around} (r : Room k A) : A.depth < recursionLimit := by have := r.dp; omega
theorem Room.units {k : Nat} {A : Around} (r : Room k A) : A.units + 64 < cLine := by have := r.un; omega
def tNil : TA := fun _ H Q => Q [] H
def tCons (ta : TE) (tr : TA) : TA := fun σ H Q => ta σ H fun x H1 => tr σ H1 fun xs H2 => Q (x :: xs) H2
section
variable {X : Cx} {e : Expr} {es : List Expr} {te : TE} {t : TA} {pos : Pos}
theorem pa_nil : PA X [] tNil := fun _ _ _ _ H Q I h => Calls.spliced_nil ⟨[], H, I, .nil, h⟩
theorem pa_cons (ha : PE X e te) (hr : PA X es t) (hs : starEach (e :: es) X.env = (false, eval e X.env) :: starEach es X.env := by rfl) : PA X (e :: es) (tCons te t) := by
  intro pos pins s σ H Q I h
  rw [hs]
  show wpAny _ _ (spliced ((false, eval e X.env) :: backTo pos (starEach es X.env))) _ _ s
  refine Calls.spliced_cons (thn (ha pins s σ H _ I h) fun u s1 ⟨x, H1, I1, r1, q1⟩ => ?_)
  exact thn (hr pos pins s1 σ H1 _ I1 q1) fun us s2 ⟨xs, H2, I2, r2, q2⟩ => ⟨x :: xs, H2, I2, .cons r1 r2, q2⟩

def tTup (t : TA) : TE := fun σ H Q => t σ H fun xs H1 => xs.length ≤ sizeLine ∧ ∀ p, H1 p = none → Q (.ref p) (upd H1 p (.tup xs))
def tLst (t : TA) : TE := fun σ H Q => t σ H fun xs H1 => xs.length ≤ sizeLine ∧ ∀ p, H1 p = none → Q (.ref p) (upd H1 p (.lst xs))
theorem pe_tup {x1} (h : PA X es t) : PE X (.Tuple es x1 pos) (tTup t) := by
  intro pins s σ H Q I hq
  refine wpAny_Tuple_spliced (thn (h pos pins s σ H _ I hq) fun us s1 ⟨xs, H1, I1, r, z, q⟩ => ⟨by rw [← r.length]; exact z, ?_⟩)
  have hf : H1 s1.heap.objs.size = none := I1.hok.fresh (Nat.le_refl _)
  refine ⟨.ref s1.heap.objs.size, upd H1 s1.heap.objs.size (.tup xs), I1.laid (t' := s1.toks) (fun b u e => Heap.get?_push_of_some _ e) (Nat.le_refl _) ?_, rfl, q _ hf⟩
  exact ⟨z, us, r, ⟨_, Heap.get?_push_size _ rfl, rfl, _, rfl⟩⟩
theorem pe_lst (h : PA X es t) : PE X (.List es pos) (tLst t) := by
  intro pins s σ H Q I hq
  refine wpAny_List_spliced (thn (h pos pins s σ H _ I hq) fun us s1 ⟨xs, H1, I1, r, z, q⟩ => ⟨by rw [← r.length]; exact z, ?_⟩)
  have hf : H1 s1.heap.objs.size = none := I1.hok.fresh (Nat.le_refl _)
  refine ⟨.ref s1.heap.objs.size, upd H1 s1.heap.objs.size (.lst xs), I1.laid (t' := s1.toks) (fun b u e => Heap.get?_push_of_some _ e) (Nat.le_refl _) ?_, rfl, q _ hf⟩
  exact ⟨z, us, 0, r, Heap.get?_push_size _ rfl⟩
end

abbrev Sp := List V → Hp → VK → XK → Prop
abbrev CXT := List Env → Hp → Shared → XK → Value → Shared → Prop

structure Env0 (P : Program) (w : World) (K : PySem.W.Frag) (mg : Str → Option Value) (base : Heap) (A : Around) (outer : List Env) (s : Shared) (H : Hp) : Prop where
  frames : A.frames = some outer
  mod : Mod K mg base
  bs : ∀ b o, base.get? b = some o → s.heap.get? b = some o ∧ H b = none
  bsz : base.objs.size ≤ s.heap.objs.size
  funs : s.heap.FunFrames base outer
  frf : ∀ b ∈ frs outer, H b = none
  hok : HOk P w H s.heap
  bare : AllBare s.gens
def CE (outer : List Env) (P : Program) (w : World) (H : Hp) (s : Shared) (Q : VK) (u : Value) (s' : Shared) : Prop :=
  ∃ v H', s'.os = s.os ∧ AllBare s'.gens ∧ Un (frs outer) [] H H' s.heap s'.heap ∧ HOk P w H' s'.heap ∧ RelV v u ∧ Q v H'
def CR (CX : CXT) (outer : List Env) (P : Program) (w : World) (H : Hp) (s : Shared) (Q : VK) (E : XK) (r : Result) (s' : Shared) : Prop :=
  match r with
  | .ok (.ret u) => CE outer P w H s Q u s'
  | .ok _ => False
  | .error e => CX outer H s E e s'
structure FnOk (P : Program) (w : World) (K : PySem.W.Frag) (mg : Str → Option Value) (base : Heap) (CX : CXT) (k : Nat) (f : Addr) (fd : FuncData) (ps : List Str) (sp : Sp) : Prop where
  len : ∀ vs H Q E, sp vs H Q E → vs.length = ps.length
  run : ∀ (A : Around) (outer : List Env) (s : Shared) (H : Hp) (args : Args) (us : List Value) (vs : List V) (Q : VK) (E : XK), Room k A → Env0 P w K mg base A outer s H → BindsTo s fd args (ps.zip us) → Vals vs us → sp vs H Q E →
    codeAny (model P w) A (.call (.ref f) args) (CR CX outer P w H s Q E) s
theorem FnOk.mono {P : Program} {w : World} {K : PySem.W.Frag} {mg : Str → Option Value} {base : Heap} {CX : CXT} {j k : Nat} {f : Addr} {fd : FuncData} {ps : List Str} {sp : Sp} (F : FnOk P w K mg base CX j f fd ps sp) (h : j ≤ k) :
    FnOk P w K mg base CX k f fd ps sp := ⟨F.len, fun A outer s H args us vs Q E hr => F.run A outer s H args us vs Q E (hr.mono h)⟩
theorem FnOk.imp {P : Program} {w : World} {K : PySem.W.Frag} {mg : Str → Option Value} {base : Heap} {CX : CXT} {k : Nat} {f : Addr} {fd : FuncData} {ps : List Str} {sp sp' : Sp} (F : FnOk P w K mg base CX k f fd ps sp)
    (h : ∀ vs H Q E, sp' vs H Q E → sp vs H Q E) : FnOk P w K mg base CX k f fd ps sp' :=
  ⟨fun vs H Q E q => F.len vs H Q E (h _ _ _ _ q), fun A outer s H args us vs Q E hr he hb hv hs => F.run A outer s H args us vs Q E hr he hb hv (h _ _ _ _ hs)⟩

theorem Env0.make {P : Program} {w : World} {K : PySem.W.Frag} {mg : Str → Option Value} {base : Heap} {A : Around} {outer : List Env} {s : Shared} {H : Hp} (e : Env0 P w K mg base A outer s H) (C : Addr) (us : List Value) (kw : List (Str × Value)) :
    Env0 P w K mg base (A.under (.builtin "type.__call__" ⟨.ref C :: us, kw⟩)) outer s H := ⟨by first | exact e.frames | (simpa [Around.under, Code.envs, Code.isFrame, pushEnvs] using e.frames), e.mod, e.bs, e.bsz, e.funs, e.frf, e.hok, e.bare⟩
theorem Env0.in1 {P : Program} {w : World} {K : PySem.W.Frag} {mg : Str → Option Value} {base : Heap} {A : Around} {outer : List Env} {s : Shared} {H : Hp} (e : Env0 P w K mg base A outer s H) :
    Env0 P w K mg base A.in1 outer s H := ⟨e.frames, e.mod, e.bs, e.bsz, e.funs, e.frf, e.hok, e.bare⟩

section
variable {X : Cx} {pins : List (Addr × Obj)} {σ : St} {H : Hp} {s s' : Shared}
theorem Inv.env0 (I : Inv X pins σ H s) : Env0 X.prog X.w X.K X.mg X.base X.A X.stack s H :=
  ⟨I.ok.frames, I.ok.mod, I.bs, Nat.le_trans I.ok.bsz I.sz, I.stack, I.stkFree, I.hok, I.bare⟩
theorem Inv.after {Q : VK} {u : Value} (I : Inv X pins σ H s) (h : CE X.stack X.prog X.w H s Q u s') : EP X pins σ Q u s' := by
  obtain ⟨v, H', os, bare, un, hok, r, q⟩ := h
  obtain ⟨hh, g, d, t, os'⟩ := s'
  obtain rfl : os' = s.os := os
  exact ⟨v, H', I.call (h' := hh) (g' := g) (d' := d) (t' := t) (ch := []) un hok bare (fun b z => absurd z (by simp)), r, q⟩
end

def tCall (sp : Sp) (dvs : List V) (E : XK) (t : TA) : TE := fun σ H Q => t σ H fun vs H1 => sp (vs ++ dvs) H1 Q E
def tMeth (C : Addr) (m : Str) (sp : Sp) (dvs : List V) (E : XK) (ta : TE) (t : TA) : TE := fun σ H Q => ta σ H fun x H1 => ∃ a dx fs, x = .ref a ∧ H1 a = some (.ins C dx fs) ∧ fs.lookup m = none ∧
  t σ H1 fun vs H2 => sp (x :: (vs ++ dvs)) H2 Q E
def tMake (C : Addr) (sp : Sp) (dvs : List V) (E : XK) (t : TA) : TE := fun σ H Q => t σ H fun vs H1 => ∀ x dx, H1 x = none → H1 dx = none → dx ≠ x →
  sp (.ref x :: (vs ++ dvs)) (upd (upd H1 dx (.own x)) x (.ins C dx [])) (fun v H2 => v = .non ∧ Q (.ref x) H2) E

def Binds (K : PySem.W.Frag) (fd : FuncData) (ps : List Str) (ds : List Value) : Prop :=
  ∀ (s : Shared) (us : List Value), K.In s.heap → (us ++ ds).length = ps.length → BindsTo s fd ⟨us, []⟩ (ps.zip (us ++ ds))
theorem Binds.all {K : PySem.W.Frag} {fd : FuncData} {ps : List Str} (h : ∀ us : List Value, us.length = ps.length → bindArgs fd ⟨us, []⟩ = pure (ps.zip us)) : Binds K fd ps [] := fun s us _ hl => by
  rw [List.append_nil] at hl ⊢
  exact .of_eq (h us hl)

def Passes (CX : CXT) (X : Cx) (E : XK) : Prop := ∀ (pins : List (Addr × Obj)) (σ : St) (H : Hp) (s : Shared) (e : Value) (s' : Shared), Inv X pins σ H s → CX X.stack H s E e s' → X.xe e s'

section
variable {X : Cx} {CX : CXT} {k : Nat} {f C : Addr} {fd : FuncData} {ps : List Str} {sp : Sp} {dvs : List V} {ds : List Value} {E : XK} {x m : Str} {p pos apos : Pos} {e o : Expr} {es : List Expr} {ta : TE} {t : TA}

theorem run_fn {pins : List (Addr × Obj)} {σ : St} {H : Hp} {s : Shared} {Q : VK} {us : List Value} {vs : List V} (F : FnOk X.prog X.w X.K X.mg X.base CX k f fd ps sp) (hr : Room k X.A) (hb : Binds X.K fd ps ds) (hd : Vals dvs ds) (hx : Passes CX X E)
    (I : Inv X pins σ H s) (r : Vals vs us) (h : sp (vs ++ dvs) H Q E) : wpAny (model X.prog X.w) X.A (call (.ref f) us) (EP X pins σ Q) X.xe s := by
  have r2 : Vals (vs ++ dvs) (us ++ ds) := r.append hd
  have hl : (us ++ ds).length = ps.length := by rw [← r2.length]; exact F.len _ _ _ _ h
  refine wpAny_call (codeAny_mono (F.run X.A X.stack s H ⟨us, []⟩ (us ++ ds) (vs ++ dvs) Q E hr I.env0 (hb s us I.kIn hl) r2 h) fun r s' hq => ?_)
  cases r with
  | error e => exact hx pins σ H s e s' I hq
  | ok fl =>
    cases fl with
    | ret u => exact I.after hq
    | next => exact False.elim hq
    | brk => exact False.elim hq
    | cont => exact False.elim hq

theorem pe_call (F : FnOk X.prog X.w X.K X.mg X.base CX k f fd ps sp) (hr : Room k X.A) (hg : Gl X x) (hm : X.mg x = some (.ref f)) (hk : PySem.W.keepIn X.K (.ref f) = true) (hb : Binds X.K fd ps ds) (hd : Vals dvs ds) (hx : Passes CX X E)
    (ha : PA X (e :: es) t) (hdb : (x == ("__debug__" : Str)) = false := by decide) (he : starEach (e :: es) X.env = (false, eval e X.env) :: starEach es X.env := by rfl) (hpl : (backTo pos (starEach es X.env)).any (·.1) = false := by rfl) :
    PE X (.Call (.Name x p) (e :: es) [] pos) (tCall sp dvs E t) := by
  intro pins s σ H Q I h
  refine wpAny_Call_Name_kw (ld_glob I hg hm ?_ hdb)
  refine PySem.W.callWith_K (h₀ := X.base) I.ok.mod.kin hk (thn (ha pos pins s σ H _ I h) fun us s1 ⟨vs, H1, I1, r, q⟩ => ⟨I1.kIn, ?_⟩) he hpl
  exact run_fn F hr hb hd hx I1 r q
theorem pe_meth {pl : Sem Bool} (he : PE X o ta) (c : Cls X.K C) (hm : Meth X.K C m f) (F : FnOk X.prog X.w X.K X.mg X.base CX k f fd ps sp) (hr : Room k X.A) (hb : Binds X.K fd ps ds) (hd : Vals dvs ds) (hx : Passes CX X E) (ha : PA X (e :: es) t)
    (hst : starEach (e :: es) X.env = (false, eval e X.env) :: starEach es X.env := by rfl) (hpl : (backTo pos (starEach es X.env)).any (·.1) = false := by rfl)
    (ht : eval (.Call (.Attribute o m apos) (e :: es) [] pos) X.env = (do
      let ov ← eval o X.env
      standAt apos.atName
      let (f, first) ← holding [ov] (getMethod ov m pl)
      callWith pos f first (backTo pos (starEach (e :: es) X.env)) (backToKw pos (keywordEach [] X.env))) := by rfl) :
    PE X (.Call (.Attribute o m apos) (e :: es) [] pos) (tMeth C m sp dvs E ta t) := by
  intro pins s σ H Q I h
  refine PySem.W.methodCall_KW (pl := pl) (thn (he pins s σ H _ I h) fun u s1 ⟨x, H1, I1, rx, a, dx, fs, ex, ea, l, q⟩ => ?_) ht
  subst ex
  obtain rfl : u = Value.ref a := rx
  refine getmeth_ok I1 ea c hm l ?_
  refine PySem.W.callWith_K (first := [.ref a]) (h₀ := X.base) I.ok.mod.kin hm.kp (thn (ha pos pins s1 σ H1 _ I1 q) fun us s2 ⟨vs, H2, I2, r, q2⟩ => ⟨I2.kIn, ?_⟩) hst hpl
  exact run_fn (us := .ref a :: us) (vs := .ref a :: vs) F hr hb hd hx I2 (.cons rfl r) q2
theorem pe_meth0 {pl : Sem Bool} (he : PE X o ta) (c : Cls X.K C) (hm : Meth X.K C m f) (F : FnOk X.prog X.w X.K X.mg X.base CX k f fd ps sp) (hr : Room k X.A) (hb : Binds X.K fd ps ds) (hd : Vals dvs ds) (hx : Passes CX X E)
    (ht : eval (.Call (.Attribute o m apos) [] [] pos) X.env = (do
      let ov ← eval o X.env
      standAt apos.atName
      let (f, first) ← holding [ov] (getMethod ov m pl)
      callWith pos f first (backTo pos (starEach [] X.env)) (backToKw pos (keywordEach [] X.env))) := by rfl) :
    PE X (.Call (.Attribute o m apos) [] [] pos) (tMeth C m sp dvs E ta tNil) := by
  intro pins s σ H Q I h
  refine PySem.W.methodCall_KW (pl := pl) (thn (he pins s σ H _ I h) fun u s1 ⟨x, H1, I1, rx, a, dx, fs, ex, ea, l, q⟩ => ?_) ht
  subst ex
  obtain rfl : u = Value.ref a := rx
  refine getmeth_ok I1 ea c hm l ?_
  exact PySem.W.callWith_K0 (first := [.ref a]) I1.kIn hm.kp (run_fn (us := [.ref a]) (vs := [.ref a]) F hr hb hd hx I1 (.cons rfl .nil) q)

structure Mk (K : PySem.W.Frag) (C f : Addr) : Prop where
  makes : PySem.W.makesIn K C = true
  init : PySem.W.findIn K (.ref C) "__init__" = some (some (.ref f))
  fn : PySem.W.isFn K (.ref f) = true
  kp : PySem.W.keepIn K (.ref C) = true

theorem run_make {pins : List (Addr × Obj)} {σ : St} {H : Hp} {s : Shared} {Q : VK} {us : List Value} {vs : List V} (M : Mk X.K C f) (F : FnOk X.prog X.w X.K X.mg X.base CX k f fd ps sp) (hr : Room (k + 1) X.A) (hb : Binds X.K fd ps ds) (hd : Vals dvs ds)
    (hx : Passes CX X E) (I : Inv X pins σ H s) (r : Vals vs us)
    (h : ∀ x dx, H x = none → H dx = none → dx ≠ x → sp (.ref x :: (vs ++ dvs)) (upd (upd H dx (.own x)) x (.ins C dx [])) (fun v H2 => v = .non ∧ Q (.ref x) H2) E) :
    wpAny (model X.prog X.w) X.A (call (.ref C) us) (EP X pins σ Q) X.xe s := by
  have hq := h (s.heap.objs.size + 1) s.heap.objs.size (I.hok.fresh (Nat.le_succ _)) (I.hok.fresh (Nat.le_refl _)) (Nat.ne_of_lt (Nat.lt_succ_self _))
  have I2 := Inv.made (C := C) I
  have r2 : Vals (V.ref (s.heap.objs.size + 1) :: (vs ++ dvs)) (Value.ref (s.heap.objs.size + 1) :: (us ++ ds)) := .cons rfl (r.append hd)
  have hl : (Value.ref (s.heap.objs.size + 1) :: us ++ ds).length = ps.length := by
    have e := r2.length
    rw [F.len _ _ _ _ hq] at e
    exact e.symm
  refine wpAny_call (make_map (f := f) I.kIn M.makes M.init (beq_iff_eq.mp M.fn) (codeAny_mono (F.run _ X.stack _ _ ⟨Value.ref (s.heap.objs.size + 1) :: us, []⟩ (Value.ref (s.heap.objs.size + 1) :: (us ++ ds)) _ _ E (hr.make C us [])
    (I2.env0.make C us []) (hb _ (Value.ref (s.heap.objs.size + 1) :: us) I2.kIn hl) r2 hq) fun r s' hq' => ?_))
  cases r with
  | error e => exact hx pins σ _ _ e s' I2 hq'
  | ok fl =>
    cases fl with
    | ret u =>
      obtain ⟨v, H', I3, rv, ev, q3⟩ := I2.after hq'
      subst ev
      exact ⟨rv, ⟨V.ref (s.heap.objs.size + 1), H', I3, rfl, q3⟩⟩
    | next => exact False.elim hq'
    | brk => exact False.elim hq'
    | cont => exact False.elim hq'
theorem pe_make (M : Mk X.K C f) (F : FnOk X.prog X.w X.K X.mg X.base CX k f fd ps sp) (hr : Room (k + 1) X.A) (hg : Gl X x) (hm : X.mg x = some (.ref C)) (hb : Binds X.K fd ps ds) (hd : Vals dvs ds) (hx : Passes CX X E)
    (ha : PA X (e :: es) t) (hdb : (x == ("__debug__" : Str)) = false := by decide) (he : starEach (e :: es) X.env = (false, eval e X.env) :: starEach es X.env := by rfl) (hpl : (backTo pos (starEach es X.env)).any (·.1) = false := by rfl) :
    PE X (.Call (.Name x p) (e :: es) [] pos) (tMake C sp dvs E t) := by
  intro pins s σ H Q I h
  refine wpAny_Call_Name_kw (ld_glob I hg hm ?_ hdb)
  refine PySem.W.callWith_K (h₀ := X.base) I.ok.mod.kin M.kp (thn (ha pos pins s σ H _ I h) fun us s1 ⟨vs, H1, I1, r, q⟩ => ⟨I1.kIn, ?_⟩) he hpl
  exact run_make M F hr hb hd hx I1 r q
theorem pe_make0 (M : Mk X.K C f) (F : FnOk X.prog X.w X.K X.mg X.base CX k f fd ps sp) (hr : Room (k + 1) X.A) (hg : Gl X x) (hm : X.mg x = some (.ref C)) (hb : Binds X.K fd ps ds) (hd : Vals dvs ds) (hx : Passes CX X E)
    (hdb : (x == ("__debug__" : Str)) = false := by decide) : PE X (.Call (.Name x p) [] [] pos) (tMake C sp dvs E tNil) := by
  intro pins s σ H Q I h
  refine wpAny_Call_Name_kw (ld_glob I hg hm ?_ hdb)
  exact PySem.W.callWith_K0 I.kIn M.kp (run_make (us := []) M F hr hb hd hx I .nil h)
end

def PK (X : Cx) (kws : List Keyword) (t : TA) : Prop :=
  ∀ (pos : Pos) (pins : List (Addr × Obj)) (s : Shared) (σ : St) (H : Hp) (Q : List V → Hp → Prop), Inv X pins σ H s → t σ H Q → wpAny (model X.prog X.w) X.A (evalAll ((backToKw pos (keywordEach kws X.env)).map (·.2))) (AP X pins σ Q) X.xe s
section
variable {X : Cx} {CX : CXT} {k : Nat} {f C : Addr} {fd : FuncData} {ps ks : List Str} {sp : Sp} {E : XK} {x m : Str} {p pos apos kpos : Pos} {e o : Expr} {es : List Expr} {kws : List Keyword} {te ta : TE} {t tk : TA} {nm : Option Str}
theorem pk_nil : PK X [] tNil := fun _ _ _ _ H Q I h => wpAny_evalAll_nil ⟨[], H, I, .nil, h⟩
theorem pk_cons (ha : PE X e te) (hr : PK X kws t) : PK X (⟨nm, e, kpos⟩ :: kws) (tCons te t) := by
  intro pos pins s σ H Q I h
  show wpAny _ _ (evalAll ((do let v ← eval e X.env; standAt pos; pure v) :: (backToKw pos (keywordEach kws X.env)).map (·.2))) _ _ s
  refine wpAny_evalAll_cons (wpAny_bind (thn (ha pins s σ H _ I h) fun u s1 ⟨x, H1, I1, r1, q1⟩ => wpAny_bind (wpAny_standAt (wpAny_pure ?_))))
  exact thn (hr pos pins s1 σ H1 _ I1 q1) fun us s2 ⟨xs, H2, I2, r2, q2⟩ => ⟨x :: xs, H2, I2, .cons r1 r2, q2⟩

variable {g : List Value → List Value → List Value} {gV : List V → List V → List V}
end

structure FnScope (N P : List Str) (sc : Scope) : Prop where
  kind : sc.kind = .function
  co : sc.isCoroutine = false
  gen : sc.isGenerator = false
  nd : N.Nodup
  pre : N.take P.length = P
  par : ∀ x ∈ P, sc.names.lookup x = some .local ∨ sc.names.lookup x = some .cell
  nofree : ∀ y ∈ sc.names, y.2 ≠ .free

theorem bindL_out {kindOf : Str → Option NameKind} {x : Str} : ∀ {binds : List (Str × Value)} {m : Str → Option Value}, (∀ v, (x, v) ∉ binds) → bindL kindOf binds m x = m x
  | [], _, _ => rfl
  | (n, v) :: r, m, h => by
    unfold bindL
    rw [bindL_out fun w hw => h w (List.mem_cons_of_mem _ hw)]
    split
    · have : x ≠ n := by rintro rfl; exact h v List.mem_cons_self
      simp [this]
    · rfl
theorem bindC_out {kindOf : Str → Option NameKind} {x : Str} : ∀ {binds : List (Str × Value)} {m : Str → Option Value}, (∀ v, (x, v) ∉ binds) → bindC kindOf binds m x = m x
  | [], _, _ => rfl
  | (n, v) :: r, m, h => by
    unfold bindC
    rw [bindC_out fun w hw => h w (List.mem_cons_of_mem _ hw)]
    split
    · rfl
    · have : x ≠ n := by rintro rfl; exact h v List.mem_cons_self
      simp [this]
theorem bindL_get {kindOf : Str → Option NameKind} {x : Str} {v : Value} : ∀ {P : List Str} {vs : List Value} {i : Nat} {m : Str → Option Value}, P.Nodup → P[i]? = some x → vs[i]? = some v → kindOf x = some .local →
    bindL kindOf (P.zip vs) m x = some v
  | [], _, _, _, _, h, _, _ => by simp at h
  | _ :: _, [], _, _, _, _, h, _ => by simp at h
  | p :: P, w :: vs, 0, m, nd, h1, h2, hk => by
    simp at h1 h2; subst h1; subst h2
    show bindL kindOf ((p, w) :: P.zip vs) m p = _
    unfold bindL
    rw [bindL_out fun v hv => (List.nodup_cons.mp nd).1 (List.of_mem_zip hv).1, if_pos hk]
    simp
  | p :: P, w :: vs, i + 1, m, nd, h1, h2, hk => by
    show bindL kindOf ((p, w) :: P.zip vs) m x = _
    unfold bindL
    exact bindL_get (i := i) (List.nodup_cons.mp nd).2 (by simpa using h1) (by simpa using h2) hk
theorem bindC_get {kindOf : Str → Option NameKind} {x : Str} {v : Value} : ∀ {P : List Str} {vs : List Value} {i : Nat} {m : Str → Option Value}, P.Nodup → P[i]? = some x → vs[i]? = some v → kindOf x ≠ some .local →
    bindC kindOf (P.zip vs) m x = some v
  | [], _, _, _, _, h, _, _ => by simp at h
  | _ :: _, [], _, _, _, _, h, _ => by simp at h
  | p :: P, w :: vs, 0, m, nd, h1, h2, hk => by
    simp at h1 h2; subst h1; subst h2
    show bindC kindOf ((p, w) :: P.zip vs) m p = _
    unfold bindC
    rw [bindC_out fun v hv => (List.nodup_cons.mp nd).1 (List.of_mem_zip hv).1, if_neg hk]
    simp
  | p :: P, w :: vs, i + 1, m, nd, h1, h2, hk => by
    show bindC kindOf ((p, w) :: P.zip vs) m x = _
    unfold bindC
    exact bindC_get (i := i) (List.nodup_cons.mp nd).2 (by simpa using h1) (by simpa using h2) hk

def start (N : List Str) (vs : List V) : St := vs.map some ++ List.replicate (N.length - vs.length) none

def cxOf (CX : CXT) (P : Program) (w : World) (K : PySem.W.Frag) (mg : Str → Option Value) (base : Heap) (N : List Str) (qual : Str) (scope : Scope) (f : Addr) (cd : Value) (A : Around) (outer : List Env) (s : Shared) (H : Hp) (E : XK) : Cx where
  prog := P
  w := w
  K := K
  mg := mg
  base := base
  A := A.deeper (envOfC qual scope s.heap.objs.size f cd)
  N := N
  s₀ := s
  H₀ := H
  env := envOfC qual scope s.heap.objs.size f cd
  outer := outer
  stack := envOfC qual scope s.heap.objs.size f cd :: outer
  ex := []
  calm := true
  fn := fun _ => true
  pn := []
  xe := fun e s' => wpAny (model P w) (A.deeper (envOfC qual scope s.heap.objs.size f cd)) (leaving (envOfC qual scope s.heap.objs.size f cd) e) (fun _ s'' => CX outer H s E e s'') (fun e' s'' => CX outer H s E e' s'') s'

theorem cell_has {sc : Scope} {n : Nat} {x : Str} (h : sc.names.lookup x = some .cell) : ∃ c, (cellsFrom n sc.names []).lookup x = some c := by
  have q := PySem.W.cellsFrom_some sc.names n [] (.inl h)
  exact Option.isSome_iff_exists.mp q

theorem inv_start {CX : CXT} {P : Program} {w : World} {K : PySem.W.Frag} {mg : Str → Option Value} {base : Heap} {N ps : List Str} {qual : Str} {scope : Scope} {f : Addr} {cd : Value} {A : Around} {outer : List Env} {s s1 : Shared} {H : Hp} {E : XK} {us : List Value} {vs : List V}
    (S : FnScope N ps scope) (hd : A.handled = none) (e0 : Env0 P w K mg base A outer s H) (hl : vs.length = ps.length) (r : Vals vs us)
    (x : InCallC s s.heap.objs.size (bindL (envOfC qual scope s.heap.objs.size f cd).kindOf (ps.zip us) fun _ => none) (cellsFrom (s.heap.objs.size + 1) scope.names []) (bindC (envOfC qual scope s.heap.objs.size f cd).kindOf (ps.zip us) fun _ => none) s1) :
    Inv (cxOf CX P w K mg base N qual scope f cd A outer s H E) [] (start N vs) H s1 := by
  have hpl : ps.length ≤ N.length := by have := congrArg List.length S.pre; rw [List.length_take] at this; omega
  obtain ⟨h1, tk, rfl, hk⟩ := x.done
  have noA : ∀ b : Addr, b ∉ (cxOf CX P w K mg base N qual scope f cd A outer s H E).ex := fun b z => absurd (show b ∈ ([] : List Addr) from z) (by simp)
  refine ⟨⟨e0.mod, S.kind, rfl, rfl, Nat.le_refl _, fun y z c h1 h2 => ?_, fun y hy => ?_, fun y c _ h => ?_, fun _ => hd, Around.frames_deeper e0.frames, .inr ⟨rfl, rfl⟩, fun b z => absurd z (noA b), e0.bs, e0.bsz, fun b _ _ => noA b, fun b z => absurd z (noA b), e0.funs, e0.frf⟩,
    rfl, e0.bare, Un.kept hk, ⟨_, x.toInCall.ns, fun i y v h1 h2 h3 => ?_⟩, fun y c h => ⟨_, x.cell y c h⟩, e0.hok.fresh (Nat.le_refl _), fun y c h => ?_, fun p hp => absurd (show p ∈ ([] : List (Addr × Obj)) from hp) (by simp), e0.hok.kept hk, ?_⟩
  · exact name_of_addr x.apart (PySem.mem_of_lookup h1) (PySem.mem_of_lookup h2)
  · have hy : scope.names.lookup y = some .cell ∨ scope.names.lookup y = some .free := hy
    rcases hy with hy | hy
    · exact cell_has hy
    · exact absurd rfl (S.nofree _ (PySem.mem_of_lookup hy))
  · exact Nat.le_of_lt (x.above y c (PySem.mem_of_lookup h))
  · have hi : i < vs.length := by
      unfold start at h2
      by_cases hi : i < vs.length
      · exact hi
      · rw [List.getElem?_append_right (by simpa using hi)] at h2
        rw [List.getElem?_replicate] at h2
        split at h2 <;> cases h2
    have ha : vs[i]? = some v := by
      unfold start at h2
      rw [List.getElem?_append_left (by simpa using hi), List.getElem?_map] at h2
      cases e : vs[i]? with
      | none => rw [e] at h2; cases h2
      | some a => rw [e] at h2; cases h2; rfl
    obtain ⟨u, hu, rv⟩ := r.get ha
    have hp : ps[i]? = some y := by
      rw [← S.pre, List.getElem?_take_of_lt (by omega)]; exact h1
    have ndP : ps.Nodup := by rw [← S.pre]; exact S.nd.sublist (List.take_sublist _ _)
    refine ⟨u, rv, ?_⟩
    rcases S.par y (List.mem_of_getElem? hp) with k | k
    · exact .inl ⟨k, bindL_get ndP hp hu k⟩
    · obtain ⟨c, e⟩ := cell_has (n := s.heap.objs.size + 1) k
      refine .inr ⟨.inl k, c, e, ?_⟩
      have q := x.cell y c e
      rw [bindC_get ndP hp hu (by show scope.names.lookup y ≠ _; rw [k]; decide)] at q
      exact q
  · exact e0.hok.fresh (Nat.le_of_lt (x.above y c (PySem.mem_of_lookup h)))
  · unfold start
    show _ = N.length
    rw [List.length_append, List.length_map, List.length_replicate]
    omega

theorem fn_of {CX : CXT} {P : Program} {w : World} {K : PySem.W.Frag} {mg : Str → Option Value} {base : Heap} {k : Nat} {f : Addr} {name qual : Str} {params : Arguments} {body : List Stmt} {scope : Scope} {dV kV doc pm cdv ct oc : Value} {an od : Option Addr}
    {osl : Array (Option Value)} {N ps : List Str} {sp : Sp} (lk : K.lookup f = some ⟨oc, od, .func (PySem.W.fnOf name qual params body scope dV kV doc pm an cdv ct), osl⟩) (hcd : PySem.W.codeIn K cdv qual = true) (S : FnScope N ps scope)
    (len : ∀ vs H Q E, sp vs H Q E → vs.length = ps.length)
    (hbody : ∀ (A : Around) (outer : List Env) (s : Shared) (H : Hp) (vs : List V) (Q : VK) (E : XK), Room k (A.deeper (envOfC qual scope s.heap.objs.size f cdv)) → sp vs H Q E →
      ∃ t, PSs (cxOf CX P w K mg base N qual scope f cdv A outer s H E) body t ∧ t { nx := fun _ H' => Q .non H', rt := Q } (start N vs) H) :
    FnOk P w K mg base CX (k + 1) f (PySem.W.fnOf name qual params body scope dV kV doc pm an cdv ct) ps sp := by
  refine ⟨len, fun A outer s H args us vs Q E hr e0 hb r hsp => ?_⟩
  have hl := len _ _ _ _ hsp
  have KX : K.In s.heap := e0.mod.kin.keeps fun b o e => (e0.bs b o e).1
  have lim : s.heap.NoLimit := e0.mod.nolimit.keeps fun b o e => (e0.bs b o e).1
  have hkind : ∀ y ∈ ps.zip us, scope.names.lookup y.1 = some .local ∨ (scope.names.lookup y.1 = some .cell ∧ ((cellsFrom (s.heap.objs.size + 1) scope.names []).lookup y.1).isSome = true) := fun ⟨n, v⟩ hy => by
    rcases S.par n (List.of_mem_zip hy).1 with q | q
    · exact .inl q
    · exact .inr ⟨q, PySem.W.cellsFrom_some _ _ _ (.inl q)⟩
  refine codeAny_call_function hr.depth (KX _ _ lk) rfl S.co S.gen rfl (PySem.W.codeRec_of KX hcd) (hb _ _ _ _ ?_)
  refine wpAny_newFunctionEnv_cells S.kind hkind fun env he s1 x => ?_
  subst he
  refine ⟨lim.keeps x.toInCall.keep, codeAny_func ?_⟩
  obtain ⟨t, ht, hq⟩ := hbody A outer s H vs Q E (hr.deeper _) hsp
  have I : Inv (cxOf CX P w K mg base N qual scope f cdv A outer s H E) [] (start N vs) H s1 := inv_start S hr.hd e0 hl r x
  refine wpAny_mono (ht [] s1 (start N vs) H _ I hq) (fun fl s' hs => ?_) fun e s' hs => hs
  have fin : ∀ {σ' : St} {H' : Hp} {v : V} {u : Value}, Inv (cxOf CX P w K mg base N qual scope f cdv A outer s H E) [] σ' H' s' → RelV v u → Q v H' → CE outer P w H s Q u s' :=
    fun {σ' H' v u} J rv q => ⟨v, H', J.os, J.bare, J.base, J.hok, rv, q⟩
  cases fl with
  | ret u =>
    obtain ⟨v, σ', H', J, rv, q⟩ := hs
    exact fin J rv q
  | next =>
    obtain ⟨σ', H', J, q⟩ := hs
    exact fin (v := V.non) (u := Value.none) J rfl q
  | brk =>
    obtain ⟨_, _, _, q⟩ := hs
    exact False.elim q
  | cont =>
    obtain ⟨_, _, _, q⟩ := hs
    exact False.elim q
end L2

namespace L2
open PySem PySem.Spec PyProof.Rows
section
variable {X : Cx} {x : Str} {p pos : Pos} {e : Expr} {es : List Expr} {t : TA} {id T : String} {r : List V → Hp → VK → Prop}

def tCB (r : List V → Hp → VK → Prop) (t : TA) : TE := fun σ H Q => t σ H fun vs H1 => r vs H1 Q
theorem pe_callB (hc : CallR X (.builtin id) r) (hg : Gl X x) (hm : X.mg x = none) (hv : bootBuiltins x = some (.builtin id)) (ha : PA X (e :: es) t) (hn : x ≠ "__name__" := by decide) (hdb : (x == ("__debug__" : Str)) = false := by decide)
    (he : starEach (e :: es) X.env = (false, eval e X.env) :: starEach es X.env := by rfl) (hpl : (backTo pos (starEach es X.env)).any (·.1) = false := by rfl) : PE X (.Call (.Name x p) (e :: es) [] pos) (tCB r t) := by
  intro pins s σ H Q I h
  refine wpAny_Call_Name_kw (ld_blt I hg hm hv ?_ hn hdb)
  exact PyProof.Rows.callWith_builtin1 (thn (ha pos pins s σ H _ I h) fun us s1 ⟨vs, H1, I1, r1, q1⟩ => hc pins s1 σ H1 vs us Q I1 r1 q1) he hpl
theorem pe_callTy (hc : CallR X (.type T) r) (hg : Gl X x) (hm : X.mg x = none) (hv : bootBuiltins x = some (.type T)) (ha : PA X (e :: es) t) (hn : x ≠ "__name__" := by decide) (hdb : (x == ("__debug__" : Str)) = false := by decide)
    (he : starEach (e :: es) X.env = (false, eval e X.env) :: starEach es X.env := by rfl) (hpl : (backTo pos (starEach es X.env)).any (·.1) = false := by rfl) : PE X (.Call (.Name x p) (e :: es) [] pos) (tCB r t) := by
  intro pins s σ H Q I h
  refine wpAny_Call_Name_kw (ld_blt I hg hm hv ?_ hn hdb)
  exact PyProof.Rows.callWith_type1 (thn (ha pos pins s σ H _ I h) fun us s1 ⟨vs, H1, I1, r1, q1⟩ => hc pins s1 σ H1 vs us Q I1 r1 q1) he hpl
end
end L2

namespace HT
open PySem PyProof.Rows

section
open PySem.SeqAt
open PySem.AutoSeq1 (wpAny_loadPart')
open PySem.MeetsSeq PySem.MeetsSeq2 PySem.MeetsSeq3

end

section
variable {prog : Program} {w : World} {A : Around} {E : Value → Shared → Prop} {s : Shared}

def sIx (n d : Nat) : Option Int → Nat
  | none => d
  | some v => if v < 0 then (v + (n : Int)).toNat else min v.toNat n
theorem sIx_none (n d : Nat) : sIx n d none = d := rfl
theorem sIx_nat (n d k : Nat) : sIx n d (some (k : Int)) = min k n := by
  show (if (k : Int) < 0 then ((k : Int) + (n : Int)).toNat else min (k : Int).toNat n) = min k n
  rw [if_neg (by omega), Int.toNat_natCast]
end
end HT

namespace L2
open PySem PySem.Spec PyProof.Rows

abbrev TO := St → Hp → (Option Int → Hp → Prop) → Prop
def PO (X : Cx) (e : Option Expr) (t : TO) : Prop :=
  ∀ (pins : List (Addr × Obj)) (s : Shared) (σ : St) (H : Hp) (Q : Option Int → Hp → Prop), Inv X pins σ H s → t σ H Q →
    wpAny (model X.prog X.w) X.A (evalPart e X.env) (fun u s' => ∃ o H', Inv X pins σ H' s' ∧ IsPart u o ∧ Q o H') X.xe s
def tNoPart : TO := fun _ H Q => Q none H
def tPart (t : TE) : TO := fun σ H Q => t σ H fun x H1 => ∃ i, x = .int i ∧ Q (some i) H1

theorem intsAre_of {ns : List Int} : ∀ {us : List Value}, Vals (ns.map V.int) us → IntsAre us ns := by
  induction ns with
  | nil => intro us r; rw [List.map_nil] at r; cases r; exact .nil
  | cons n ns ih =>
    intro us r
    rw [List.map_cons] at r
    cases r with
    | cons r1 r2 =>
      obtain ⟨t, e⟩ := r1
      subst e
      exact .cons n t (ih r2)

section
variable {X : Cx} {e : Expr} {te : TE} {lo hi : Option Expr} {tl th : TO} {pos p2 : Pos}

theorem po_none : PO X none tNoPart := by
  intro pins s σ H Q I h
  rw [evalPart_none]
  exact wpAny_pure ⟨none, H, I, .none, h⟩
theorem po_some (h : PE X e te) : PO X (some e) (tPart te) := by
  intro pins s σ H Q I hw
  rw [evalPart_some]
  refine thn (h pins s σ H _ I hw) fun u s1 ⟨x, H1, I1, r1, q1⟩ => ?_
  obtain ⟨i, rfl, q⟩ := q1
  obtain ⟨t, rfl⟩ := r1
  exact ⟨some i, H1, I1, .int i t, q⟩

def SlR (X : Cx) (r : V → Option Int → Option Int → Hp → VK → Prop) : Prop :=
  ∀ (pins : List (Addr × Obj)) (s : Shared) (σ : St) (H : Hp) (x : V) (v vl vu : Value) (lo hi : Option Int) (sl : Addr) (Q : VK), Inv X pins σ H s → RelV x v → s.heap.IsSliceOf sl vl vu .none → IsPart vl lo → IsPart vu hi → r x lo hi H Q →
    ∃ T id, typeLookup (.type T) "__getitem__" = pure (some (.builtin id)) ∧ s.TypeIs v T ∧ wpAny (model X.prog X.w) X.A (getItem v (.ref sl)) (EP X pins σ Q) X.xe s
def tSl (r : V → Option Int → Option Int → Hp → VK → Prop) (te : TE) (tl th : TO) : TE := fun σ H Q => te σ H fun x H1 => tl σ H1 fun l H2 => th σ H2 fun u H3 => r x l u H3 Q
theorem pe_slice {r : V → Option Int → Option Int → Hp → VK → Prop} (hr : SlR X r) (he : PE X e te) (hl : PO X lo tl) (hu : PO X hi th) : PE X (.Subscript e (.Slice lo hi none p2) pos) (tSl r te tl th) := by
  intro pins s σ H Q I h
  refine Subscript_ (thn (he pins s σ H _ I h) fun v s1 ⟨x, H1, I1, r1, q1⟩ => ?_)
  refine wpAny_Slice (thn (hl pins s1 σ H1 _ I1 q1) fun vl s2 ⟨l, H2, I2, pl, q2⟩ => thn (hu pins s2 σ H2 _ I2 q2) fun vu s3 ⟨u, H3, I3, pu, q3⟩ => ?_)
  rw [evalPart_none]
  refine wpAny_pure ?_
  have I4 : Inv X pins σ H3 { s3 with heap := s3.heap.push { cls := .type "slice", data := .fields #[vl, vu, .none] } } := I3.kept (t' := s3.toks) fun b ob q => Heap.get?_push_of_some _ q
  obtain ⟨T, id, hT, ht, hg⟩ := hr pins { s3 with heap := s3.heap.push { cls := .type "slice", data := .fields #[vl, vu, .none] } } σ H3 x v vl vu l u s3.heap.objs.size Q I4 r1 (Heap.IsSliceOf.new ..) pl pu q3
  show wpAny (model X.prog X.w) X.A (subscriptTail e (.Slice lo hi none p2) v (.ref s3.heap.objs.size)) (EP X pins σ Q) X.xe { s3 with heap := s3.heap.push { cls := .type "slice", data := .fields #[vl, vu, .none] } }
  exact tail_any (ops := [.ref s3.heap.objs.size, v]) ht hT hg (by with_unfolding_all rfl)

def cutV (xs : List V) (lo hi : Option Int) : List V := (xs.drop (HT.sIx xs.length 0 lo)).take (HT.sIx xs.length xs.length hi - HT.sIx xs.length 0 lo)
theorem cutV_length (xs : List V) (lo hi : Option Int) : (cutV xs lo hi).length ≤ xs.length := by
  unfold cutV
  rw [List.length_take, List.length_drop]
  omega
end
end L2

namespace L2
open PySem PySem.Spec PyProof.Rows

def ixN (n : Nat) (i : Int) : Option Nat := if 0 ≤ i then (if i < n then some i.toNat else none) else if -(n : Int) ≤ i then some (i + n).toNat else none
def atI {α : Type} (xs : List α) (i : Int) : Option α := (ixN xs.length i).bind fun j => xs[j]?
theorem ixN_seq {n : Nat} {i : Int} {j : Nat} (h : ixN n i = some j) : seqIndex? i n = some j ∧ j < n ∧ -(n : Int) ≤ i ∧ i < n := by
  unfold ixN at h
  by_cases h0 : 0 ≤ i
  · rw [if_pos h0] at h
    by_cases h1 : i < n
    · rw [if_pos h1] at h
      have e : i.toNat = j := Option.some.inj h
      exact ⟨by rw [seqIndex_of h0 h1, e], by omega, by omega, h1⟩
    · rw [if_neg h1] at h; cases h
  · rw [if_neg h0] at h
    by_cases h1 : -(n : Int) ≤ i
    · rw [if_pos h1] at h
      have e : (i + n).toNat = j := Option.some.inj h
      exact ⟨by rw [seqIndex_neg (by omega) h1, e], by omega, h1, by omega⟩
    · rw [if_neg h1] at h; cases h
theorem atI_get {α : Type} {xs : List α} {i : Int} {v : α} (h : atI xs i = some v) : ∃ j, seqIndex? i xs.length = some j ∧ xs[j]? = some v ∧ j < xs.length ∧ -(xs.length : Int) ≤ i ∧ i < xs.length := by
  unfold atI at h
  cases e : ixN xs.length i with
  | none => rw [e] at h; cases h
  | some j =>
    rw [e] at h
    obtain ⟨h1, h2, h3, h4⟩ := ixN_seq e
    exact ⟨j, h1, h, h2, h3, h4⟩
theorem atI_nat {α : Type} {xs : List α} {j : Nat} {v : α} (h : xs[j]? = some v) : atI xs (j : Int) = some v := by
  have hj : j < xs.length := (List.getElem?_eq_some_iff.mp h).1
  have e : ixN xs.length (j : Int) = some j := by
    unfold ixN
    rw [if_pos (by omega), if_pos (by omega)]; simp
  unfold atI; rw [e]; exact h
def PlainIx (b : Expr) : Prop := ∀ o i, subscripted b false o i = operate [o, i] (getItem o i)
def IxR (X : Cx) (r : R2) : Prop :=
  ∀ (value slice : Expr) (pins : List (Addr × Obj)) (s : Shared) (σ : St) (H : Hp) (x y : V) (v u : Value) (Q : VK), Inv X pins σ H s → RelV x v → RelV y u → r x y H Q →
    subscripted slice false v u = operate [v, u] (getItem v u) → wpAny (model X.prog X.w) X.A (subscriptTail value slice v u) (EP X pins σ Q) X.xe s
def MtR (X : Cx) (id : String) (r : V → List V → Hp → VK → Prop) : Prop :=
  ∀ (pins : List (Addr × Obj)) (s : Shared) (σ : St) (H : Hp) (x : V) (xs : List V) (v : Value) (us : List Value) (Q : VK), Inv X pins σ H s → RelV x v → Vals xs us → r x xs H Q →
    wpAny (model X.prog X.w) X.A (call (.builtin id) (v :: us)) (EP X pins σ Q) X.xe s
section
variable {X : Cx} {a b : Expr} {ta tb : TE} {pos : Pos}
theorem pe_ix {r : R2} (hr : IxR X r) (ha : PE X a ta) (hb : PE X b tb) (hs : PlainIx b) : PE X (.Subscript a b pos) (tOp r ta tb) := by
  intro pins s σ H Q I h
  exact Subscript_ (binT ha hb I h fun v u s2 x y H2 I2 rx ry q => hr a b pins s2 σ H2 x y v u Q I2 rx ry q (hs _ _))

def rIxL (K : PySem.W.Frag) : R2 := fun x y H Q => ∃ p xs i v, x = .ref p ∧ y = .int i ∧ SqL K H p xs ∧ atI xs i = some v ∧ Q v H
def rIxT (K : PySem.W.Frag) : R2 := fun x y H Q => ∃ p xs i v, x = .ref p ∧ y = .int i ∧ SqT K H p xs ∧ atI xs i = some v ∧ Q v H
def rIxS : R2 := fun x y H Q => ∃ z i c, x = .str z ∧ y = .int i ∧ z.length ≤ sizeLine ∧ atI z.cps.toList i = some c ∧ Q (.str ⟨#[c]⟩) H
theorem ix_list : IxR X (rIxL X.K) := by
  intro value slice pins s σ H x y v u Q I rx ry h hs
  obtain ⟨p, xs, i, z, rfl, rfl, hq, he, q⟩ := h
  cases rx
  obtain ⟨t, rfl⟩ := ry
  obtain ⟨its, r, pl, hz⟩ := I.list hq
  obtain ⟨j, h1, h2, h3, h4, h5⟩ := atI_get he
  obtain ⟨w, ew, rw'⟩ := r.get h2
  have hl := r.length
  have hn := line63
  have fin : EP X pins σ Q w s := ⟨z, H, I, rw', q⟩
  by_cases h0 : 0 ≤ i
  · have hj : i.toNat = j := by
      rw [seqIndex_of h0 h5] at h1
      exact Option.some.inj h1
    exact item_listR pl.isList h0 (by omega) (by rw [hj]; simpa using ew) fin hs
  · have hj : (i + (its.toArray.size : Int)).toNat = j := by
      rw [seqIndex_neg (by omega) h4] at h1
      rw [List.size_toArray, ← hl]
      exact Option.some.inj h1
    exact subscriptTail_builtinR (x := w) pl.isList.typeIs slot_list_getitem.lookup
      (wpAny_getItem_list_neg (Q := fun r s' => r = w ∧ EP X pins σ Q r s') pl.isList (by omega) (by rw [List.size_toArray] <;> omega) (by omega) (by rw [hj]; simpa using ew) ⟨rfl, fin⟩) hs
theorem ix_tup : IxR X (rIxT X.K) := by
  intro value slice pins s σ H x y v u Q I rx ry h hs
  obtain ⟨p, xs, i, z, rfl, rfl, hq, he, q⟩ := h
  cases rx
  obtain ⟨t, rfl⟩ := ry
  obtain ⟨its, r, pl, hz⟩ := I.tuple hq
  obtain ⟨j, h1, h2, h3, h4, h5⟩ := atI_get he
  obtain ⟨w, ew, rw'⟩ := r.get h2
  have hl := r.length
  have hn := line63
  have fin : EP X pins σ Q w s := ⟨z, H, I, rw', q⟩
  exact subscriptTail_builtinR (x := w) pl.typeIs slot_tuple_getitem.lookup
    (getItem_tuple (j := j) (Q := fun r s' => r = w ∧ EP X pins σ Q r s') pl (by omega) (by omega) (by rw [List.size_toArray, ← hl]; exact h1) (by simpa using ew) ⟨rfl, fin⟩) hs
theorem ix_str : IxR X rIxS := by
  intro value slice pins s σ H x y v u Q I rx ry h hs
  obtain ⟨z, i, c, rfl, rfl, hz, he, q⟩ := h
  obtain ⟨t, rfl⟩ := rx
  obtain ⟨t', rfl⟩ := ry
  obtain ⟨j, h1, h2, h3, h4, h5⟩ := atI_get he
  have hl : z.cps.toList.length = z.length := by simp [Str.length]
  rw [hl] at h1 h4 h5
  have hn := line63
  exact tail_any (typeIs_str s z t) slot_str_getitem.lookup (getItem_str (c := c) (by
    have e1 : decide (i < -(2 ^ 63 : Int)) = false := decide_eq_false (by omega)
    have e2 : decide (i ≥ 2 ^ 63) = false := decide_eq_false (by omega)
    rw [e1, e2, Bool.or_false]) (by rw [h1]; simpa using h2) ⟨.str ⟨#[c]⟩, H, I.tok _, ⟨_, rfl⟩, q⟩) hs
theorem Inv.lst {pins : List (Addr × Obj)} {σ : St} {H : Hp} {s : Shared} {p : Addr} {xs : List V} (I : Inv X pins σ H s) (h : H p = some (.lst xs)) :
    ∃ (its : List Value) (n : Nat), Vals xs its ∧ s.heap.get? p = some { cls := .type "list", data := .seq its.toArray n } ∧ xs.length ≤ sizeLine := by
  obtain ⟨z, its, n, r, e⟩ := I.hok p _ h
  exact ⟨its, n, r, e, z⟩
theorem slice_bounds (lo hi : Option Int) (n : Nat) : (sliceBounds lo hi none n).1 = ((HT.sIx n 0 lo : Nat) : Int) ∧ (sliceBounds lo hi none n).2.1 = ((HT.sIx n n hi : Nat) : Int) ∧ (sliceBounds lo hi none n).2.2 = 1 := by
  refine ⟨?_, ?_, rfl⟩
  · cases lo with
    | none => simp [sliceBounds, HT.sIx]
    | some i =>
      simp only [sliceBounds, HT.sIx, Option.getD_none, show (1 : Int) > 0 by decide, if_true]
      by_cases h : i < 0
      · simp only [h, if_true] <;> omega
      · simp only [h, if_false] <;> omega
  · cases hi with
    | none => simp [sliceBounds, HT.sIx]
    | some i =>
      simp only [sliceBounds, HT.sIx, Option.getD_none, show (1 : Int) > 0 by decide, if_true]
      by_cases h : i < 0
      · simp only [h, if_true] <;> omega
      · simp only [h, if_false] <;> omega
theorem slicePick_cut (its : List Value) (lo hi : Option Int) : slicePick its.toArray lo hi none = ((its.drop (HT.sIx its.length 0 lo)).take (HT.sIx its.length its.length hi - HT.sIx its.length 0 lo)).toArray := by
  obtain ⟨h1, h2, h3⟩ := slice_bounds lo hi its.toArray.size
  unfold slicePick
  rw [h1, h2, h3]
  simp only [sliceRange_one, pick_run, List.size_toArray] <;> rfl
def rSlL (K : PySem.W.Frag) : V → Option Int → Option Int → Hp → VK → Prop := fun x lo hi H Q => ∃ a xs, x = .ref a ∧ SqL K H a xs ∧ ∀ p, H p = none → Q (.ref p) (upd H p (.lst (cutV xs lo hi)))
theorem sl_list : SlR X (rSlL X.K) := by
  intro pins s σ H x v vl vu lo hi sl Q I rx hs pl pu h
  obtain ⟨a, xs, rfl, hx, q⟩ := h
  cases rx
  obtain ⟨its, r, ht, hz⟩ := I.list hx
  have hlen := r.length
  refine ⟨"list", _, slot_list_getitem.lookup, ht.isList.typeIs, ?_⟩
  refine wpAny_getItem_list_slice ht.isList hs pl pu .none (by simp) ?_ (by rw [List.size_toArray] <;> omega)
  rw [slicePick_cut, ← hlen]
  refine ⟨.ref s.heap.objs.size, _, I.laid (t' := s.toks) (o := .lst (cutV xs lo hi)) (fun b ob q => Heap.get?_push_of_some _ q) (Nat.le_refl _) ?_, rfl, q _ (I.hok.fresh (Nat.le_refl _))⟩
  exact ⟨Nat.le_trans (cutV_length xs lo hi) hz, _, 0, (r.drop (HT.sIx xs.length 0 lo)).take (HT.sIx xs.length xs.length hi - HT.sIx xs.length 0 lo), Heap.get?_push_size _ rfl⟩

theorem op_notIn_str : OpR X (compareOp .NotIn) (fun x y H Q => ∃ i j, x = .str i ∧ y = .str j ∧ Q (.bl (!(!(Builtin.Str.occurrences j i 0 j.length 1).isEmpty))) H) := by
  intro pins s σ H x y v u Q I rx ry h
  obtain ⟨i, j, rfl, rfl, q⟩ := h
  obtain ⟨t, rfl⟩ := rx
  obtain ⟨t', rfl⟩ := ry
  exact notIn_str ⟨.bl _, H, I, rfl, q⟩

theorem call_len_seq : CallR X (.builtin "len") (fun xs H Q => ∃ p ys, xs = [.ref p] ∧ (SqL X.K H p ys ∨ SqT X.K H p ys) ∧ Q (.int ys.length) H) := by
  intro pins s σ H xs us Q I r h
  obtain ⟨p, ys, rfl, hq, q⟩ := h
  obtain ⟨u, rfl, rx⟩ := vals1 r
  cases rx
  have hn := line63
  rcases hq with hq | hq
  · obtain ⟨its, r', pl, hz⟩ := I.list hq
    have hlen := r'.length
    exact Calls.call_len_list pl.isList (by simp only [List.size_toArray] <;> omega) ⟨.int ys.length, H, I.tok _, ⟨s.toks + 1, by rw [List.size_toArray, hlen]⟩, q⟩
  · obtain ⟨its, r', pl, hz⟩ := I.tuple hq
    have hlen := r'.length
    exact len_tuple pl (by simp only [List.size_toArray] <;> omega) ⟨.int ys.length, H, I.tok _, ⟨s.toks + 1, by rw [List.size_toArray, hlen]⟩, q⟩
theorem call_len_str : CallR X (.builtin "len") (fun xs H Q => ∃ z, xs = [.str z] ∧ z.length ≤ sizeLine ∧ Q (.int z.length) H) := by
  intro pins s σ H xs us Q I r h
  obtain ⟨z, rfl, hz, q⟩ := h
  obtain ⟨u, rfl, t, rfl⟩ := vals1 r
  have hn := line63
  exact len_str (by omega) ⟨.int z.length, H, I.tok _, ⟨_, rfl⟩, q⟩
def tyV (K : PySem.W.Frag) (T : String) (x : V) (H : Hp) : Prop := match x with
  | .str _ => T = "str"
  | .int _ => T = "int"
  | .ref p => (T = "list" ∧ ∃ xs, SqL K H p xs) ∨ (T = "tuple" ∧ ∃ o, K.lookup p = some o ∧ o.cls = .type "tuple" ∧ o.dict = none) ∨
      (T = "dict" ∧ ((∃ kvs, H p = some (.dK kvs)) ∨ ∃ kvs, H p = some (.dT kvs))) ∨ (T = "set" ∧ ∃ S n, H p = some (.set S n))
  | _ => False
theorem tyV_is {pins : List (Addr × Obj)} {σ : St} {H : Hp} {s : Shared} {T : String} {x : V} {v : Value} (I : Inv X pins σ H s) (r : RelV x v) (ty : tyV X.K T x H) :
    s.TypeIs v T ∧ ∀ a, v = .ref a → ∃ ob, s.heap.get? a = some ob ∧ ob.dict = none := by
  cases x with
  | str z =>
    obtain ⟨t, rfl⟩ := r
    cases (show T = "str" from ty)
    exact ⟨typeIs_str s z t, fun _ e => nomatch e⟩
  | int i =>
    obtain ⟨t, rfl⟩ := r
    cases (show T = "int" from ty)
    exact ⟨typeIs_int s i t, fun _ e => nomatch e⟩
  | ref p =>
    cases r
    rcases ty with ⟨rfl, xs, hq⟩ | ⟨rfl, o, hk, hc, hd⟩ | ⟨rfl, hk⟩ | ⟨rfl, S, n, hk⟩
    · obtain ⟨its, _, pl, _⟩ := I.list hq
      refine ⟨pl.isList.typeIs, fun a e => ?_⟩
      cases e
      obtain ⟨o, n, e, c, hd, _⟩ := pl
      exact ⟨o, e, hd⟩
    · refine ⟨⟨o, I.kIn p o hk, hc⟩, fun a e => ?_⟩
      cases e
      exact ⟨o, I.kIn _ o hk, hd⟩
    · have z : ∃ o, s.heap.get? p = some o ∧ o.ExactDict := by
        rcases hk with ⟨kvs, hk⟩ | ⟨kvs, hk⟩
        · obtain ⟨_, _, _, _, o, _, _, e, ex, _⟩ := I.hok p _ hk
          exact ⟨o, e, ex⟩
        · obtain ⟨_, _, _, _, o, _, _, e, ex, _⟩ := I.hok p _ hk
          exact ⟨o, e, ex⟩
      obtain ⟨o, e, ex⟩ := z
      refine ⟨⟨o, e, ex.1⟩, fun a e2 => ?_⟩
      cases e2
      exact ⟨o, e, ex.2.1⟩
    · obtain ⟨o, _, _, _, e, ex, _⟩ := I.hok p _ hk
      refine ⟨⟨o, e, ex.1⟩, fun a e2 => ?_⟩
      cases e2
      exact ⟨o, e, ex.2.1⟩
  | _ => exact False.elim ty
def tBM0 (K : PySem.W.Frag) (T : String) (r : V → List V → Hp → VK → Prop) (to : TE) : TE := fun σ H Q => to σ H fun x H1 => tyV K T x H1 ∧ r x [] H1 Q
def tBM (K : PySem.W.Frag) (T : String) (r : V → List V → Hp → VK → Prop) (to : TE) (t : TA) : TE := fun σ H Q => to σ H fun x H1 => tyV K T x H1 ∧ t σ H1 fun xs H2 => r x xs H2 Q
variable {o e : Expr} {es : List Expr} {to : TE} {t : TA} {name : Str} {apos cpos : Pos} {T id : String} {r : V → List V → Hp → VK → Prop}
theorem pe_bm (pa : PlainAttrs T) (slot : Slot T name id) (hty : typeOf (.builtin id) = pure (.type "method_descriptor")) (hm : MtR X id r) (ho : PE X o to) (ha : PA X (e :: es) t)
    (hbase : attributeBase o name X.env (eval o X.env) = eval o X.env := by rfl)
    (hfew : ((backTo cpos (starEach (e :: es) X.env)).all (fun x => !x.1) && (backToKw cpos (keywordEach [] X.env)).all (fun x => x.1.isSome)
      && decide ((e :: es).length + ([] : List Keyword).length + (if ([] : List Keyword).isEmpty then 0 else 1) < 30)) = true := by rfl)
    (hline : (apos.endLine == cpos.line) = true := by rfl) (hs : starEach (e :: es) X.env = (false, eval e X.env) :: starEach es X.env := by rfl) (hplain : (backTo cpos (starEach es X.env)).any (·.1) = false := by rfl) :
    PE X (.Call (.Attribute o name apos) (e :: es) [] cpos) (tBM X.K T r to t) := by
  intro pins s σ H Q I h
  refine wpAny_Call_method_late hbase hfew hline rfl (thn (ho pins s σ H _ I h) fun v s1 ⟨x, H1, I1, r1, ty, q1⟩ => ?_)
  obtain ⟨h1, h2⟩ := tyV_is I1 r1 ty
  refine ⟨T, id, pa, slot, hty, h1, h2, ?_⟩
  have hA := ha cpos pins s1 σ H1 _ I1 q1
  rw [hs] at hA ⊢
  refine Calls.callWith_builtin (by show (false || (backTo cpos (starEach es X.env)).any (·.1)) = false; rw [hplain] <;> rfl) (Calls.evalArgs_plain ?_)
  exact thn hA fun us s2 ⟨vs, H2, I2, r2, q2⟩ => hm pins s2 σ H2 x vs v us Q I2 r1 r2 q2
/- xs.append(e), list.index on a module's tuple .. are MtR facts of 06m -/
end
end L2

namespace L2
open PySem PySem.Spec PyProof.Rows

def MtM (X : Cx) (id : String) (r : V → List V → Hp → VK → Prop) : Prop :=
  ∀ (pins : List (Addr × Obj)) (s : Shared) (σ : St) (H : Hp) (x : V) (xs : List V) (v : Value) (us : List Value) (Q : VK), Inv X pins σ H s → RelV x v → Vals xs us → r x xs H Q →
    wpAny (model X.prog X.w) X.A (call (.builtin id) (v :: us)) (EP X pins σ Q) X.xe s

theorem Vals.one : ∀ {x : V} {us : List Value}, Vals [x] us → ∃ u, us = [u] ∧ RelV x u
  | _, _, .cons r .nil => ⟨_, rfl, r⟩
theorem Vals.two : ∀ {x y : V} {us : List Value}, Vals [x, y] us → ∃ u v, us = [u, v] ∧ RelV x u ∧ RelV y v
  | _, _, _, .cons r (.cons q .nil) => ⟨_, _, rfl, r, q⟩
theorem Vals.zero : ∀ {us : List Value}, Vals [] us → us = []
  | _, .nil => rfl
theorem Vals.dropLast {xs : List V} {us : List Value} (h : Vals xs us) : Vals xs.dropLast us.dropLast := by
  induction h with
  | nil => exact .nil
  | cons r t ih =>
    cases t with
    | nil => exact .nil
    | cons q t' => exact .cons r ih
theorem Vals.eraseIdx : ∀ {xs : List V} {us : List Value} (i : Nat), Vals xs us → Vals (xs.eraseIdx i) (us.eraseIdx i)
  | _, _, _, .nil => .nil
  | _, _, 0, .cons _ t => t
  | _, _, i + 1, .cons r t => .cons r (Vals.eraseIdx i t)
theorem Vals.reverse {xs : List V} {us : List Value} (h : Vals xs us) : Vals xs.reverse us.reverse := by
  induction h with
  | nil => exact .nil
  | cons r t ih => rw [List.reverse_cons, List.reverse_cons]; exact Vals.append ih (.cons r .nil)
section
variable {X : Cx} {pins : List (Addr × Obj)} {σ : St} {H : Hp} {s : Shared} {l b : Addr} {xs ys zs : List V}

theorem Inv.lset {its its' : List Value} {n : Nat} {f : Array Value → Array Value} {t' : Nat} (I : Inv X pins σ H s) (hH : H l = some (.lst xs))
    (e : s.heap.get? l = some { cls := .type "list", data := .seq its.toArray n }) (hf : f its.toArray = its'.toArray) (hv : Vals ys its') (hz : ys.length ≤ sizeLine) :
    Inv X pins σ (upd H l (.lst ys)) { s with heap := s.heap.update l (Obj.mapSeq f), toks := t' } := by
  have q := PySem.IsL.update e f
  rw [hf] at q
  refine I.write (x := l) (e := l) (by rw [hH]; exact trivial) (.inl rfl) (fun b' u hb hu => (Heap.get?_update_other s.heap (Obj.mapSeq f) (Ne.symm hb)).trans hu) ⟨_, q⟩ ?_
  exact ⟨hz, its', _, hv, q⟩
theorem Inv.lnew {its : List Value} {t' : Nat} (I : Inv X pins σ H s) (hv : Vals ys its) (hz : ys.length ≤ sizeLine) :
    Inv X pins σ (upd H s.heap.objs.size (.lst ys)) { s with heap := s.heap.push { cls := .type "list", data := .seq its.toArray }, toks := t' } :=
  I.laid (fun _ _ q => Heap.get?_push_of_some _ q) (Nat.le_refl _) ⟨hz, its, 0, hv, Heap.get?_push_size _ rfl⟩
theorem Inv.fresh (I : Inv X pins σ H s) : H s.heap.objs.size = none := I.hok.fresh (Nat.le_refl _)
theorem Inv.lstM (I : Inv X pins σ H s) (hH : H l = some (.lst xs)) : xs.length ≤ sizeLine ∧ ∃ (its : List Value) (n : Nat), Vals xs its ∧ xs.length = its.length ∧ s.heap.get? l = some { cls := .type "list", data := .seq its.toArray n } := by
  obtain ⟨z, its, n, r, e⟩ := I.hok l _ hH
  exact ⟨z, its, n, r, r.length, e⟩

theorem notLongL {n : Nat} (h : n ≤ sizeLine) : Builtin.List.listTooLong n = false := by
  unfold Builtin.List.listTooLong
  exact decide_eq_false (by omega)
end

section
variable {X : Cx}

def rAppend : V → List V → Hp → VK → Prop := fun x vs H Q => ∃ l xs y, x = .ref l ∧ vs = [y] ∧ H l = some (.lst xs) ∧ xs.length < sizeLine ∧ Q .non (upd H l (.lst (xs ++ [y])))
theorem mt_append : MtM X "list.append" rAppend := by
  intro pins s σ H x vs v us Q I rx rv h
  obtain ⟨l, xs, y, rfl, rfl, hH, hz, q⟩ := h
  cases rx
  obtain ⟨u, rfl, ru⟩ := rv.one
  obtain ⟨z, its, n, r, hl, e⟩ := I.lstM hH
  refine call_meets F.slot_list_append ⟨_, e, rfl⟩ F.entry_list_append (F.args_list_append_2 _ _) (PySem.list_append l its.toArray n u (by rw [List.size_toArray]; omega)) ⟨e, ?_⟩
  refine ⟨.non, _, I.lset (its' := its ++ [u]) hH e (by simp) (r.append (.cons ru .nil)) ?_, rfl, q⟩
  rw [List.length_append, List.length_singleton]
  omega

def rExtend : V → List V → Hp → VK → Prop := fun x vs H Q => ∃ l b xs zs, x = .ref l ∧ vs = [.ref b] ∧ H l = some (.lst xs) ∧ H b = some (.lst zs) ∧ xs.length + zs.length ≤ sizeLine ∧ Q .non (upd H l (.lst (xs ++ zs)))
theorem mt_extend : MtM X "list.extend" rExtend := by
  intro pins s σ H x vs v us Q I rx rv h
  obtain ⟨l, b, xs, zs, rfl, rfl, hH, hB, hz, q⟩ := h
  cases rx
  obtain ⟨u, rfl, ru⟩ := rv.one
  cases ru
  obtain ⟨z, its, n, r, hl, e⟩ := I.lstM hH
  obtain ⟨z2, its2, n2, r2, hl2, e2⟩ := I.lstM hB
  have hsz : its.toArray.size + its2.toArray.size ≤ sizeLine := by rw [List.size_toArray, List.size_toArray]; omega
  have hlong : ¬ (!its.toArray.isEmpty && Builtin.List.listTooLong (its.toArray.size + its2.toArray.size)) = true := by
    rw [notLongL hsz, Bool.and_false]
    exact Bool.false_ne_true
  refine call_meets F.slot_list_extend ⟨_, e, rfl⟩ F.entry_list_extend (F.args_list_extend_2 _ _)
    (AutoSeq1.list_extend_list_list_0 l its.toArray n b its2.toArray n2 hlong (by rw [List.size_toArray]; omega) (by omega)) ⟨e, e2, ?_⟩
  refine ⟨.non, _, I.lset (its' := its ++ its2) hH e (by simp) (r.append r2) ?_, rfl, q⟩
  rw [List.length_append]
  omega

def rCat : R2 := fun x y H Q => ∃ l b xs zs, x = .ref l ∧ y = .ref b ∧ H l = some (.lst xs) ∧ H b = some (.lst zs) ∧ xs.length + zs.length ≤ sizeLine ∧ ∀ p, H p = none → Q (.ref p) (upd H p (.lst (xs ++ zs)))
theorem op_cat : OpR X (binaryOp .Add) rCat := by
  intro pins s σ H x y v u Q I rx ry h
  obtain ⟨l, b, xs, zs, rfl, rfl, hH, hB, hz, q⟩ := h
  cases rx
  cases ry
  obtain ⟨z, its, n, r, hl, e⟩ := I.lstM hH
  obtain ⟨z2, its2, n2, r2, hl2, e2⟩ := I.lstM hB
  refine PySem.P.add_list e e2 ?_ (by rw [List.size_toArray, List.size_toArray]; omega)
  have ea : its.toArray ++ its2.toArray = (its ++ its2).toArray := by simp
  rw [ea]
  exact ⟨.ref _, _, I.lnew (t' := s.toks) (r.append r2) (by rw [List.length_append]; omega), rfl, q _ I.fresh⟩
end

section
variable {prog : Program} {w : World} {A : Around} {E : Value → Shared → Prop} {s : Shared}
end

section
variable {X : Cx}
end
end L2

namespace Att
open PySem PySem.W PySem.Calls PyProof.Rows

theorem ints_of_wellAll {P : Params} {h : Heap} : ∀ (ns : List Int) (vs : List Value), WellAll P h vs (ns.map WData.int) → IntsAre vs ns := by
  intro ns
  induction ns with
  | nil =>
    intro vs w
    rw [List.map_nil] at w
    cases w
    exact .nil
  | cons n ns ih =>
    intro vs w
    rw [List.map_cons] at w
    cases w with
    | cons a b =>
      cases a
      exact .cons _ _ (ih _ b)

theorem script_of {l : OpenLaw} {n : Nat} (hn : l.most = some n) {P : Params} {h : Heap} {args : List WData} {vals : List Value}
    (hpre : l.row.toRowW.claim.pre args = true) (hwl : WellAll P h vals args) :
    ∃ a vs ns, vals = [Value.ref a] ∧ args = [WData.list (ns.map WData.int)] ∧ h.get? a = some { cls := .type "list", data := .seq vs.toArray } ∧ IntsAre vs ns ∧ ns.length ≤ n := by
  have hsh : WShape.hasAll [] args [.list .int] = true := (pre_splitW hpre).1
  have hc : l.pre.holds [] { args := args } = true := (pre_splitW hpre).2
  obtain ⟨d, r, rfl, h1, h2⟩ := hasAllW_cons hsh
  obtain rfl := hasAllW_nil h2
  obtain ⟨xs, rfl, h3⟩ := hasW_list h1
  obtain ⟨ns, rfl⟩ := items_int h3
  have hlen : ns.length ≤ n := by
    unfold OpenLaw.pre at hc
    have h4 : (WTm.not (.lt (.lit (.int (n : Int))) (.len (.arg 0)))).holds [] { args := [.list (ns.map .int)] } = true := by
      have h4 := (holds_andW hc).1
      rw [hn] at h4
      exact h4
    have h5 := condW_of h4 (w_not (w_lt w_lit (w_len_list (w_arg rfl))))
    rw [List.length_map] at h5
    refine Nat.le_of_not_lt fun q => ?_
    have q' : (n : Int) < ((ns.length : Nat) : Int) := by omega
    first
      | (rw [decide_eq_true q'] at h5; exact absurd h5 (by decide))
      | (simp at h5; omega)
  cases hwl with
  | cons w1 w2 =>
    cases w2
    cases w1 with
    | list ho hall => exact ⟨_, _, ns, rfl, rfl, ho, ints_of_wellAll ns _ hall, hlen⟩

theorem post_true (l : OpenLaw) (args : List WData) : l.row.toRowW.claim.post args (.bool true) args = true :=
  postW_of (r := l.row.toRowW) (X := (true == true))
    (show WShape.has [] (.bool true) .bool = true by first | rfl | decide | simp [WShape.has, WShape.arms, WShape.armsAll])
    (show (WTm.eq .res (.lit (.bool true))).value [] { args := args, res := some (.bool true), after := args } = some (.bool (true == true)) from w_eq_bool (w_res rfl) w_lit) rfl

section
variable {prog : Program} {w : World} {A : Around} {E : Value → Shared → Prop} {s : Shared} {K : Frag}

end
end Att

namespace L2
open PySem PySem.Spec PyProof.Rows

theorem vals_ints : ∀ {vs : List Value} {ns : List Int}, IntsAre vs ns → Vals (ns.map V.int) vs
  | _, _, .nil => .nil
  | _, _, .cons n t h => .cons ⟨t, rfl⟩ (vals_ints h)

def Only (H : Hp) : Prop := ∀ b, H b = none ∨ ∃ o xs, H b = some (.frz o (.lst xs))

theorem law_call {P : Program} {w : World} {K : PySem.W.Frag} {mg mb : Str → Option Value} {CX : CXT} {k : Nat} {fa a : Addr} {fd : FuncData} {x : Str} {sp : Sp} {s₁ : Shared} {vs : List Value} {ns : List Int}
    (KX : K.In s₁.heap) (hns : s₁.heap.Ns mainGlobals mg) (hb : s₁.heap.Ns builtinsNs mb) (hbb : ∀ x : Str, x ≠ "__name__" → mb x = bootBuiltins x) (hlim : s₁.heap.NoLimit) (hg : s₁.gens = #[])
    (ha : s₁.heap.get? a = some { cls := .type "list", data := .seq vs.toArray }) (hi : IntsAre vs ns) (hl : ns.length ≤ sizeLine) (hr : Room k callerA)
    (F : ∀ base : Heap, K.In base → base.Ns mainGlobals mg → FnOk P w K mg base CX k fa fd [x] sp) (hbind : ∀ (s : Shared) (u : Value), BindsTo s fd ⟨[u], []⟩ [(x, u)])
    (hsp : ∀ H : Hp, Only H → SqL K H a (ns.map V.int) → sp [.ref a] H (fun v _ => v = .bl true) fun _ _ _ => False)
    (hCX : ∀ H e s', CX [] H s₁ (fun _ _ _ => False) e s' → False) :
    codeAny (model P w) callerA (.call (.ref fa) ⟨[.ref a], []⟩) (fun r s' => r = .ok (.ret (.bool true)) ∧ OldK s₁.heap s'.heap ∧ s'.os = s₁.os ∧ AllBare s'.gens) s₁ := by
  have rv := vals_ints hi
  have lenV := hi.length
  -- from an abstract heap in which nothing but the script may be tracked
  have core : ∀ H : Hp, Only H → SqL K H a (ns.map V.int) → HOk P w H s₁.heap → (∀ b, H b ≠ none → b = a) → (H a ≠ none → K.lookup a = none) →
      codeAny (model P w) callerA (.call (.ref fa) ⟨[.ref a], []⟩) (fun r s' => r = .ok (.ret (.bool true)) ∧ OldK s₁.heap s'.heap ∧ s'.os = s₁.os ∧ AllBare s'.gens) s₁ := by
    intro H hO hS hok hA hK
    have base_of : ∀ {b : Addr} {o : Obj}, s₁.heap.get? b = some o → H b = none → (hidT s₁.heap H).get? b = some o := fun e n => hidT_get e n
    have noA : ∀ {b : Addr} {o : Obj} {es : Array DictEntry} {ep : Nat}, s₁.heap.get? b = some o → o.data = .dict es ep → H b = none := fun {b o es ep} e d => by
      cases q : H b with
      | none => rfl
      | some u =>
        have e' : b = a := hA b (by rw [q]; simp)
        subst e'
        rw [ha] at e; cases e
        have d' : Data.seq vs.toArray _ = Data.dict es ep := d
        cases d'
    have nsK : ∀ {b : Addr} {m : Str → Option Value}, s₁.heap.Ns b m → (hidT s₁.heap H).Ns b m := fun {b m} ⟨o, es, ep, e, d, r⟩ => ⟨o, es, ep, base_of e (noA e d), d, r⟩
    have hKb : K.In (hidT s₁.heap H) := fun b o e => base_of (KX b o e) (by
      cases q : H b with
      | none => rfl
      | some u =>
        have e' : b = a := hA b (by rw [q]; simp)
        subst e'
        rw [hK (by rw [q]; simp)] at e; cases e)
    have hM : Mod K mg (hidT s₁.heap H) := ⟨hKb, nsK hns, ⟨mb, nsK hb, hbb⟩, let ⟨mc, h1, h2⟩ := hlim; ⟨mc, nsK h1, h2⟩⟩
    have e0 : Env0 P w K mg (hidT s₁.heap H) callerA [] s₁ H := ⟨rfl, hM, fun b o e => of_hidT e, Nat.le_of_eq (hidT_size _ _), trivial, fun b hb => absurd (show b ∈ ([] : List Addr) from hb) (by simp), hok, .of_eq hg⟩
    refine codeAny_mono ((F _ hKb (nsK hns)).run callerA [] s₁ H ⟨[.ref a], []⟩ [.ref a] [.ref a] _ _ hr e0 (hbind s₁ (.ref a)) (.cons rfl .nil) (hsp H hO hS)) fun r s' h => ?_
    cases r with
    | error e => exact (hCX H e s' h).elim
    | ok fl =>
      cases fl with
      | next => exact False.elim h
      | brk => exact False.elim h
      | cont => exact False.elim h
      | ret u =>
        obtain ⟨v, H', os, bare, un, hok', r', q⟩ := h
        have q' : v = .bl true := q
        subst q'
        obtain rfl : u = Value.bool true := r'
        refine ⟨rfl, OldK.of_keep fun b o e => ?_, os, bare⟩
        cases q : H b with
        | none => exact un.keep b o e q (by intro z; exact absurd (show b ∈ ([] : List Addr) from z) (by simp)) (by simp)
        | some u =>
          rcases hO b with z | ⟨ob, xs, z⟩
          · rw [q] at z; cases z
          · have z2 := un.frzs b ob _ z
            obtain ⟨e1, _⟩ := hok b _ z
            obtain ⟨e2, _⟩ := hok' b _ z2
            rw [e] at e1; cases e1
            exact e2
  cases hk : K.lookup a with
  | some o =>
    -- the script is one of the module's own objects
    have e := KX a o hk
    rw [ha] at e
    cases e
    refine core (fun _ => none) (fun _ => .inl rfl) (.inr ⟨_, vs.toArray, _, hk, rfl, rfl, rfl, by rw [List.size_toArray, lenV]; exact hl, by simpa using rv⟩) (fun b u z => by have z' : (none : Option HO) = some u := z; cases z') (fun b z => absurd rfl z) fun z => absurd rfl z
  | none =>
    refine core (fun b => if b = a then some (.frz { cls := .type "list", data := .seq vs.toArray } (.lst (ns.map V.int))) else none) (fun b => ?_) (.inl (.inr ⟨{ cls := .type "list", data := .seq vs.toArray }, if_pos rfl⟩)) (fun b u z => ?_) (fun b z => ?_) fun _ => hk
    · by_cases hb : b = a
      · exact .inr ⟨_, _, if_pos hb⟩
      · exact .inl (if_neg hb)
    · by_cases hb : b = a
      · have z' := (if_pos hb).symm.trans z
        cases z'
        subst hb
        exact ⟨ha, by rw [List.length_map]; exact hl, vs, _, rv, ha⟩
      · have z' := (if_neg hb).symm.trans z
        cases z'
    · by_cases hb : b = a
      · exact hb
      · exact absurd (if_neg hb) z
end L2

namespace L2
open PySem PySem.Spec PyProof.Rows

end L2

/- THE LAST THEOREM (shape; LID, My.* are yours):
   My.Adr: a structure of the addresses that your layer names (classes, functions); My.Txt K t: a structure (Prop) of the equations over K;
   My.txt_mk : {K} {implicit addresses ..} (e1 : nsIn K mainGlobals "law" = some (some (.ref f))) (e2 : K.lookup f = some ⟨oc, od, .func (fnOf "law" "law" params body scope dV kV doc pm an cdv ct), sl⟩) (e3 : codeIn K cdv "law" = true) .. : ∃ t, My.Txt K t

set_option maxRecDepth 100000 in
set_option maxHeartbeats 0 in
theorem PySem.Challenge.cw_LID_holds : PySem.Challenge.rw_LID.Holds := by
  w_on; o_law; k_head; (case hw => w_witness2)
  k_fill
  refine L2.walk_of (l := PySem.Challenge.rw_LID) (n := 63) (k := 40) (x := "script") (CX := fun w => ..) (sp := fun _ => My.sp_law) rfl (by decide) rfl ⟨rfl, by decide, by decide⟩ (fun w h Y => PySem.W.kIn_of Y) ?F ?S ?C
  case F =>
    intro w mg fa h KX G hmg
    have T : ∃ t, My.Txt (L2.KOf KX) t := by
      dsimp only [L2.KOf]                          -- K must stand as «<heap const> w.params» for k_is
      refine' My.txt_mk ?e1 ?e2 ?e3 ..
      (case e1 => PySem.W.k_is)                    -- in the order: a name -> its address -> its object -> its parts
      (case e2 => PySem.W.k_is)
      ..
    obtain ⟨t, T⟩ := T
    have e0 := hmg.symm.trans (PySem.W.mg_of KX G T.law)
    cases e0                                       -- fa is the law's own address
    exact ⟨_, fun s u => .of_eq rfl, fun base kb nb => My.law_fn T kb nb⟩     -- if «.of_eq rfl» comes too early: refine' ⟨_, ?b, fun base kb nb => My.law_fn T kb nb⟩; exact fun s u => .of_eq rfl
  case S => exact fun w H a ns hl hO hS => ..
  case C => exact ..
(the tactic k_is has no namespace: write k_is) -/

namespace L2
open PySem PySem.Spec PyProof.Rows

def inClass (s : Stmt) (j : Nat) : Stmt := match s with
  | .ClassDef _ _ _ body _ _ _ _ _ _ _ => body.getD j (.Pass ⟨0, 0, 0, 0⟩)
  | _ => .Pass ⟨0, 0, 0, 0⟩
def defArgs (s : Stmt) : Arguments := match s with
  | .FunctionDef _ a _ _ _ _ _ _ _ _ => a
  | _ => { posonlyargs := [], args := [], vararg := none, kwonlyargs := [], kw_defaults := [], kwarg := none, defaults := [] }
def defBody (s : Stmt) : List Stmt := match s with
  | .FunctionDef _ _ b _ _ _ _ _ _ _ => b
  | _ => []
def defScope (s : Stmt) : Scope := match s with
  | .FunctionDef _ _ _ _ _ _ sc _ _ _ => sc
  | _ => { kind := .function, names := [], isGenerator := false, isCoroutine := false }

abbrev CX0 : CXT := fun _ _ _ _ _ _ => False
abbrev E0 : XK := fun _ _ _ => False
theorem pass0 {X : Cx} : Passes CX0 X E0 := fun _ _ _ _ _ _ _ h => h.elim

structure Fun (K : PySem.W.Frag) (x qual : Str) (st : Stmt) (f : Addr) (fd : FuncData) : Prop where
  ex : ∃ (oc : Value) (od : Option Addr) (kV doc pm : Value) (an : Option Addr) (cdv ct : Value) (osl : Array (Option Value)),
    fd = PySem.W.fnOf x qual (defArgs st) (defBody st) (defScope st) .none kV doc pm an cdv ct ∧ K.lookup f = some ⟨oc, od, .func fd, osl⟩ ∧ PySem.W.codeIn K cdv qual = true
  kp : PySem.W.keepIn K (.ref f) = true
section
variable {P : Program} {w : World} {K : PySem.W.Frag} {mg : Str → Option Value} {base : Heap}
theorem Fun.ok {x qual : Str} {st : Stmt} {f : Addr} {fd : FuncData} {N ps : List Str} {k : Nat} {sp : Sp} (F : Fun K x qual st f fd) (S : FnScope N ps (defScope st)) (len : ∀ vs H Q E, sp vs H Q E → vs.length = ps.length)
    (hbody : ∀ (cdv : Value) (A : Around) (outer : List Env) (s : Shared) (H : Hp) (vs : List V) (Q : VK) (E : XK), Room k (A.deeper (envOfC qual (defScope st) s.heap.objs.size f cdv)) → sp vs H Q E →
      ∃ t, PSs (cxOf CX0 P w K mg base N qual (defScope st) f cdv A outer s H E).nox (defBody st) t ∧ t { nx := fun _ H' => Q .non H', rt := Q } (start N vs) H) : FnOk P w K mg base CX0 (k + 1) f fd ps sp := by
  obtain ⟨oc, od, kV, doc, pm, an, cdv, ct, osl, rfl, lk, hcd⟩ := F.ex
  refine fn_of lk hcd S len fun A outer s H vs Q E hr hsp => ?_
  obtain ⟨t, h, q⟩ := hbody cdv A outer s H vs Q E hr hsp
  exact ⟨t, h.nox, q⟩
theorem Fun.binds {x qual : Str} {st : Stmt} {f : Addr} {fd : FuncData} {ps : List Str} (F : Fun K x qual st f fd)
    (h : ∀ (kV doc pm : Value) (an : Option Addr) (cdv ct : Value) (us : List Value), us.length = ps.length → bindArgs (PySem.W.fnOf x qual (defArgs st) (defBody st) (defScope st) .none kV doc pm an cdv ct) ⟨us, []⟩ = pure (ps.zip us)) : Binds K fd ps [] := by
  obtain ⟨oc, od, kV, doc, pm, an, cdv, ct, osl, rfl, lk, hcd⟩ := F.ex
  exact .all (h kV doc pm an cdv ct)
theorem fun_mk {x qual : Str} {st : Stmt} {f : Addr} {oc : Value} {od an : Option Addr} {osl : Array (Option Value)} {kV doc pm cdv ct : Value} (l : K.lookup f = some ⟨oc, od, .func (PySem.W.fnOf x qual (defArgs st) (defBody st) (defScope st) .none kV doc pm an cdv ct), osl⟩)
    (c : PySem.W.codeIn K cdv qual = true) (k : PySem.W.keepIn K (.ref f) = true) : Fun K x qual st f (PySem.W.fnOf x qual (defArgs st) (defBody st) (defScope st) .none kV doc pm an cdv ct) := ⟨⟨oc, od, kV, doc, pm, an, cdv, ct, osl, rfl, l, c⟩, k⟩
end
theorem hu_of {A : Around} {k : Nat} (hr : Room k A) : A.units + 1 < cLine := Nat.lt_of_le_of_lt (Nat.add_le_add_left (by decide : 1 ≤ 64) _) hr.units
theorem small1000 {n : Nat} (h : n ≤ 1000) : n < sizeLine := Nat.lt_of_le_of_lt h (by decide)

section
variable {X : Cx}
theorem pv (i : Nat) {x : Str} {pos : Pos} (hN : X.N[i]? = some x := by rfl) (hv : Vis X.env.scope x := by first | exact Or.inl rfl | exact Or.inr (Or.inl rfl) | exact Or.inr (Or.inr rfl)) (hd : (x == ("__debug__" : Str)) = false := by decide)
    (hcd : (x == ("__classdict__" : Str)) = false := by decide) : PE X (.Name x pos) (tVar i) := pe_var hN hv hd hcd
end

def Same (H H' : Hp) : Prop := ∀ b o, H b = some o → H' b = some o
theorem Same.refl (H : Hp) : Same H H := fun _ _ h => h
theorem Same.trans {H H1 H2 : Hp} (a : Same H H1) (b : Same H1 H2) : Same H H2 := fun c o h => b c o (a c o h)
theorem Same.free {H H' : Hp} (e : Same H H') {l : Addr} (h : H' l = Option.none) : H l = Option.none := by
  cases q : H l with
  | none => rfl
  | some o =>
    rw [e l o q] at h
    cases h
theorem Same.seq {K : PySem.W.Frag} {H H' : Hp} {a : Addr} {xs : List V} (e : Same H H') (h : SqL K H a xs) : SqL K H' a xs := by
  rcases h with (h | ⟨o, h⟩) | h
  · exact .inl (.inl (e _ _ h))
  · exact .inl (.inr ⟨o, e _ _ h⟩)
  · exact .inr h

end L2
namespace L2
open PySem PySem.Spec PyProof.Rows
section
variable {κ : Type} [DecidableEq κ]
def valV (kvs : List (κ × V)) (k : κ) : Option V := (kvs.find? fun kv => decide (kv.1 = k)).map (·.2)
def putK (kvs : List (κ × V)) (k : κ) (v : V) : List (κ × V) :=
  if (kvs.any fun kv => decide (kv.1 = k)) = true then kvs.map (fun kv => if kv.1 = k then (kv.1, v) else kv) else kvs ++ [(k, v)]
def dropK (kvs : List (κ × V)) (k : κ) : List (κ × V) := kvs.filter fun kv => decide (kv.1 ≠ k)

theorem valV_pos {p : κ × V} {r : List (κ × V)} {k : κ} (e : p.1 = k) : valV (p :: r) k = some p.2 := by simp [valV, List.find?_cons, e]
theorem valV_neg {p : κ × V} {r : List (κ × V)} {k : κ} (e : ¬ p.1 = k) : valV (p :: r) k = valV r k := by simp [valV, List.find?_cons, e]
theorem valV_any (k : κ) : ∀ kvs : List (κ × V), (kvs.any fun kv => decide (kv.1 = k)) = (valV kvs k).isSome
  | [] => rfl
  | p :: r => by
    rw [List.any_cons]
    by_cases e : p.1 = k
    · simp only [valV_pos e, decide_eq_true e, Bool.true_or, Option.isSome_some]
    · rw [valV_neg e, decide_eq_false e, Bool.false_or]; exact valV_any k r
theorem valV_map (k j : κ) (y : V) : ∀ kvs : List (κ × V), valV (kvs.map fun kv => if kv.1 = k then (kv.1, y) else kv) j = (valV kvs j).map fun x => if j = k then y else x
  | [] => rfl
  | p :: r => by
    have ih := valV_map k j y r
    rw [List.map_cons]
    by_cases h : p.1 = k
    · rw [if_pos h]
      by_cases e : p.1 = j
      · rw [valV_pos (p := (p.1, y)) e, valV_pos e, Option.map_some, if_pos (e.symm.trans h)]
      · rw [valV_neg (p := (p.1, y)) e, valV_neg e, ih]
    · rw [if_neg h]
      by_cases e : p.1 = j
      · rw [valV_pos (p := p) e, valV_pos e, Option.map_some, if_neg (fun z => h (e.trans z))]
      · rw [valV_neg (p := p) e, valV_neg e, ih]
theorem valV_snoc (k j : κ) (y : V) : ∀ kvs : List (κ × V), valV kvs k = none → valV (kvs ++ [(k, y)]) j = if j = k then some y else valV kvs j
  | [], _ => by
    by_cases e : k = j
    · rw [if_pos e.symm]; exact valV_pos (p := (k, y)) e
    · rw [if_neg (fun z => e z.symm)]; exact valV_neg (p := (k, y)) e
  | p :: r, hn => by
    rw [List.cons_append]
    have hk : ¬ p.1 = k := fun z => by rw [valV_pos z] at hn; cases hn
    rw [valV_neg hk] at hn
    have ih := valV_snoc k j y r hn
    by_cases e : p.1 = j
    · rw [valV_pos e, valV_pos e, if_neg (fun z => hk (e.trans z))]
    · rw [valV_neg e, valV_neg e, ih]
theorem valV_put (kvs : List (κ × V)) (k j : κ) (y : V) : valV (putK kvs k y) j = if j = k then some y else valV kvs j := by
  unfold putK
  by_cases a : (kvs.any fun kv => decide (kv.1 = k)) = true
  · rw [if_pos a, valV_map]
    rw [valV_any] at a
    by_cases e : j = k
    · obtain ⟨x, hx⟩ := Option.isSome_iff_exists.mp a
      rw [if_pos e, e, hx, Option.map_some, if_pos rfl]
    · rw [if_neg e]
      cases valV kvs j with
      | none => rfl
      | some x => rw [Option.map_some, if_neg e]
  · rw [if_neg a]
    refine valV_snoc k j y kvs ?_
    rw [valV_any] at a
    cases q : valV kvs k with
    | none => rfl
    | some x => rw [q] at a; exact (a rfl).elim
theorem length_putK (kvs : List (κ × V)) (k : κ) (v : V) : (putK kvs k v).length ≤ kvs.length + 1 := by
  unfold putK
  split
  · rw [List.length_map]; omega
  · rw [List.length_append, List.length_cons, List.length_nil]; omega
theorem RelO.isSome_eq {o : Option V} {u : Option Value} (r : RelO o u) : o.isSome = u.isSome := by
  cases o with
  | none => cases u with
    | none => rfl
    | some _ => exact (show False from r).elim
  | some _ => cases u with
    | none => exact (show False from r).elim
    | some _ => rfl
theorem RelO.getD {o : Option V} {u : Option Value} {d : V} {d' : Value} (r : RelO o u) (rd : RelV d d') : RelV (o.getD d) (u.getD d') := by
  cases o with
  | none => cases u with
    | none => exact rd
    | some _ => exact (show False from r).elim
  | some _ => cases u with
    | none => exact (show False from r).elim
    | some _ => exact r

theorem KV.val {kvs : List (κ × V)} {vs : List (κ × Value)} (r : KV kvs vs) (k : κ) : RelO (valV kvs k) (valueAt vs k) := by
  unfold KV at r
  induction r with
  | nil => exact True.intro
  | @cons p q ps qs h t ih =>
    obtain ⟨h1, h2⟩ := h
    by_cases e : p.1 = k
    · have e' : q.1 = k := h1.symm.trans e
      have b : valueAt (q :: qs) k = some q.2 := by simp [valueAt, List.find?_cons, e']
      rw [valV_pos e, b]; exact h2
    · have e' : ¬ q.1 = k := fun z => e (h1.trans z)
      have b : valueAt (q :: qs) k = valueAt qs k := by simp [valueAt, List.find?_cons, e']
      rw [valV_neg e, b]; exact ih
theorem KV.any {kvs : List (κ × V)} {vs : List (κ × Value)} (r : KV kvs vs) (k : κ) : (kvs.any fun kv => decide (kv.1 = k)) = vs.any fun kv => decide (kv.1 = k) := by
  unfold KV at r
  induction r with
  | nil => rfl
  | cons h t ih => rw [List.any_cons, List.any_cons, ih, h.1]
theorem KV.repl {kvs : List (κ × V)} {vs : List (κ × Value)} (r : KV kvs vs) (k : κ) {y : V} {u : Value} (ry : RelV y u) :
    KV (kvs.map fun kv => if kv.1 = k then (kv.1, y) else kv) (vs.map fun kv => if kv.1 = k then (kv.1, u) else kv) := by
  unfold KV at r ⊢
  induction r with
  | nil => exact .nil
  | @cons p q ps qs h t ih =>
    rw [List.map_cons, List.map_cons]
    refine .cons ?_ ih
    obtain ⟨h1, h2⟩ := h
    by_cases e : p.1 = k
    · rw [if_pos e, if_pos (h1.symm.trans e)]; exact ⟨h1, ry⟩
    · rw [if_neg e, if_neg (fun z => e (h1.trans z))]; exact ⟨h1, h2⟩
theorem KV.put {kvs : List (κ × V)} {vs : List (κ × Value)} (r : KV kvs vs) (k : κ) {y : V} {u : Value} (ry : RelV y u) : KV (putK kvs k y) (stored vs k u) := by
  unfold putK stored
  rw [r.any k]
  by_cases e : (vs.any fun kv => decide (kv.1 = k)) = true
  · rw [if_pos e, if_pos e]; exact r.repl k ry
  · rw [if_neg e, if_neg e]; exact Paired.snoc r ⟨rfl, ry⟩
theorem KV.drop {kvs : List (κ × V)} {vs : List (κ × Value)} (r : KV kvs vs) (k : κ) : KV (dropK kvs k) (without vs k) := by
  unfold KV at r ⊢
  unfold dropK without
  induction r with
  | nil => exact .nil
  | @cons p q ps qs h t ih =>
    obtain ⟨h1, h2⟩ := h
    rw [List.filter_cons, List.filter_cons]
    by_cases e : p.1 = k
    · have a : ¬ decide (p.1 ≠ k) = true := by simp [e]
      have b : ¬ decide (q.1 ≠ k) = true := by simp [h1.symm.trans e]
      rw [if_neg a, if_neg b]; exact ih
    · have e' : ¬ q.1 = k := fun z => e (h1.trans z)
      have a : decide (p.1 ≠ k) = true := by simp [e]
      have b : decide (q.1 ≠ k) = true := by simp [e']
      rw [if_pos a, if_pos b]; exact .cons ⟨h1, h2⟩ ih
theorem KV.length {kvs : List (κ × V)} {vs : List (κ × Value)} (r : KV kvs vs) : kvs.length = vs.length := Paired.length r
end


theorem kV_is {P : Program} {w : World} {k : Key} {u : Value} (r : RelV (kV k) u) : (mixKind P w).is k u = true := by
  cases k with
  | inl i => obtain ⟨t, e⟩ := (show ∃ t, u = Value.int i t from r); subst e; exact mixKind_int P w i t
  | inr x => obtain ⟨t, e⟩ := (show ∃ t, u = Value.str x t from r); subst e; exact mixKind_str P w x t
theorem items_are {P : Program} {w : World} : ∀ {ks : List Key} {us : List Value}, Vals (ks.map kV) us → ItemsAre (mixKind P w) ks us
  | [], _, r => by rw [List.map_nil] at r; cases r; exact .nil
  | k :: ks, _, r => by
    rw [List.map_cons] at r
    cases r with
    | cons h t => exact .cons (kV_is h) (items_are t)

abbrev KT (H : Hp) : List (List Key × V) → List (List Key × Addr × Value) → Prop := Paired fun p q => p.1 = q.1 ∧ H q.2.1 = some (.tup (p.1.map kV)) ∧ RelV p.2 q.2.2
theorem KT.val {H : Hp} {kvs : List (List Key × V)} {xs : List (List Key × Addr × Value)} (r : KT H kvs xs) (k : List Key) : RelO (valV kvs k) ((atKey xs k).map (·.2)) := by
  induction r with
  | nil => exact True.intro
  | @cons p q ps qs h t ih =>
    obtain ⟨h1, _, h2⟩ := h
    by_cases e : p.1 = k
    · have e' : q.1 = k := h1.symm.trans e
      have b : atKey (q :: qs) k = some q.2 := by simp [atKey, List.find?_cons, e']
      rw [valV_pos e, b]; exact h2
    · have e' : ¬ q.1 = k := fun z => e (h1.trans z)
      have b : atKey (q :: qs) k = atKey qs k := by simp [atKey, List.find?_cons, e']
      rw [valV_neg e, b]; exact ih
theorem KT.repl {H : Hp} {kvs : List (List Key × V)} {xs : List (List Key × Addr × Value)} (r : KT H kvs xs) (k : List Key) {y : V} {u : Value} (ry : RelV y u) :
    KT H (kvs.map fun kv => if kv.1 = k then (kv.1, y) else kv) (xs.map (putAt k u)) := by
  induction r with
  | nil => exact .nil
  | @cons p q ps qs h t ih =>
    rw [List.map_cons, List.map_cons]
    refine .cons ?_ ih
    obtain ⟨h1, h2, h3⟩ := h
    unfold putAt
    by_cases e : p.1 = k
    · rw [if_pos e, if_pos (h1.symm.trans e)]; exact ⟨h1, h2, ry⟩
    · rw [if_neg e, if_neg (fun z => e (h1.trans z))]; exact ⟨h1, h2, h3⟩
theorem KT.put {H : Hp} {kvs : List (List Key × V)} {xs : List (List Key × Addr × Value)} (r : KT H kvs xs) (k : List Key) {b : Addr} {y : V} {u : Value} (hb : H b = some (.tup (k.map kV))) (ry : RelV y u) :
    KT H (putK kvs k y) (storedH xs k b u) := by
  have e : (kvs.any fun kv => decide (kv.1 = k)) = (atKey xs k).isSome := by
    rw [valV_any, (r.val k).isSome_eq, Option.isSome_map]
  unfold putK storedH
  rw [e]
  by_cases q : (atKey xs k).isSome = true
  · rw [if_pos q, if_pos q]; exact r.repl k ry
  · rw [if_neg q, if_neg q]; exact Paired.snoc r ⟨rfl, hb, ry⟩
theorem KT.keeps {H H' : Hp} {kvs : List (List Key × V)} {xs : List (List Key × Addr × Value)} (r : KT H kvs xs) (ht : ∀ b ys, H b = some (.tup ys) → H' b = some (.tup ys)) : KT H' kvs xs :=
  Paired.mapP r fun _ _ z => ⟨z.1, ht _ _ z.2.1, z.2.2⟩

section
variable {P : Program} {w : World} {H : Hp} {h : Heap} {a : Addr}
theorem rd_of {u : HO} (ok : HOk P w H h) (e : Rd H a u) : ObjOk P w H h a u := e.ok ok
theorem dk_rd {kvs : List (Key × V)} (ok : HOk P w H h) (e : Rd H a (.dK kvs)) : kvs.length ≤ sizeLine ∧ (a == sysModules) = false ∧ ∃ vs, KV kvs vs ∧ h.DictOf (mixKind P w) a vs :=
  show ObjOk P w H h a (.dK kvs) from rd_of ok e
theorem dk_of {kvs : List (Key × V)} (ok : HOk P w H h) (e : H a = some (.dK kvs)) : kvs.length ≤ sizeLine ∧ (a == sysModules) = false ∧ ∃ vs, KV kvs vs ∧ h.DictOf (mixKind P w) a vs := dk_rd ok (.inl e)
theorem key_of {ks : List Key} (ok : HOk P w H h) (e : H a = some (.tup (ks.map kV))) : (tupleKind (mixKind P w)).is h ks a := by
  obtain ⟨_, its, r, o, h1, h2, n, h3⟩ := (show ObjOk P w H h a (.tup (ks.map kV)) from ok a _ e)
  exact ⟨o, its.toArray, n, h1, h2, h3, by simpa using items_are r⟩
theorem dt_rd {kvs : List (List Key × V)} (ok : HOk P w H h) (e : Rd H a (.dT kvs)) : kvs.length ≤ sizeLine ∧ (a == sysModules) = false ∧
    ∃ xs, KT H kvs xs ∧ h.DictOfH (tupleKind (mixKind P w)) a xs := by
  obtain ⟨z, y, xs, r, o, es, ep, h1, h2, h3, h4, h5⟩ := (show ObjOk P w H h a (.dT kvs) from rd_of ok e)
  refine ⟨z, y, xs, r, o, es, ep, h1, h2, h3, h4, fun x hx => ?_, h5⟩
  have all : ∀ {l : List (List Key × V)} {m : List (List Key × Addr × Value)}, KT H l m → ∀ x ∈ m, (tupleKind (mixKind P w)).is h x.1 x.2.1 := by
    intro l m q
    induction q with
    | nil => intro x hx; exact nomatch hx
    | @cons p q ps qs hq t ih =>
      intro x hx
      rcases List.mem_cons.mp hx with e | hx
      · subst e
        exact key_of ok (by rw [← hq.1]; exact hq.2.1)
      · exact ih x hx
  exact all r x hx
theorem dt_of {kvs : List (List Key × V)} (ok : HOk P w H h) (e : H a = some (.dT kvs)) : kvs.length ≤ sizeLine ∧ (a == sysModules) = false ∧
    ∃ xs, KT H kvs xs ∧ h.DictOfH (tupleKind (mixKind P w)) a xs := dt_rd ok (.inl e)
end

def DGet (H : Hp) (a : Addr) (y : V) (r : Option V) : Prop :=
  (∃ kvs k, Rd H a (.dK kvs) ∧ y = kV k ∧ r = valV kvs k) ∨ ∃ kvs k b, Rd H a (.dT kvs) ∧ y = .ref b ∧ H b = some (.tup (k.map kV)) ∧ r = valV kvs k
def DPut (H : Hp) (a : Addr) (y v : V) (H' : Hp) : Prop :=
  (∃ kvs k, H a = some (.dK kvs) ∧ y = kV k ∧ kvs.length < sizeLine ∧ H' = upd H a (.dK (putK kvs k v))) ∨
  ∃ kvs k b, H a = some (.dT kvs) ∧ y = .ref b ∧ H b = some (.tup (k.map kV)) ∧ kvs.length < sizeLine ∧ H' = upd H a (.dT (putK kvs k v))
theorem DGet.k {H : Hp} {a : Addr} {kvs : List (Key × V)} {k : Key} (e : H a = some (.dK kvs)) : DGet H a (kV k) (valV kvs k) := .inl ⟨kvs, k, .inl e, rfl, rfl⟩
theorem DGet.t {H : Hp} {a b : Addr} {kvs : List (List Key × V)} {k : List Key} (e : H a = some (.dT kvs)) (eb : H b = some (.tup (k.map kV))) : DGet H a (.ref b) (valV kvs k) := .inr ⟨kvs, k, b, .inl e, rfl, eb, rfl⟩
theorem DPut.k {H : Hp} {a : Addr} {kvs : List (Key × V)} {k : Key} {v : V} (e : H a = some (.dK kvs)) (hl : kvs.length < sizeLine) : DPut H a (kV k) v (upd H a (.dK (putK kvs k v))) := .inl ⟨kvs, k, e, rfl, hl, rfl⟩
theorem DPut.t {H : Hp} {a b : Addr} {kvs : List (List Key × V)} {k : List Key} {v : V} (e : H a = some (.dT kvs)) (eb : H b = some (.tup (k.map kV))) (hl : kvs.length < sizeLine) :
    DPut H a (.ref b) v (upd H a (.dT (putK kvs k v))) := .inr ⟨kvs, k, b, e, rfl, eb, hl, rfl⟩


section
variable {X : Cx} {pins : List (Addr × Obj)} {σ : St} {H : Hp} {s : Shared} {a : Addr} {y v : V} {u r : Value} {o : Option V} {A : Around} {E : Value → Shared → Prop}

theorem Inv.big (I : Inv X pins σ H s) : sysModules < s.heap.objs.size := by
  have h : mainGlobals < s.heap.objs.size := (I.mod.glob.keeps I.bk).lt
  exact Nat.lt_trans (by decide) h

theorem d_getItem {Q : Value → Shared → Prop} (hu : A.units + 1 < cLine) (I : Inv X pins σ H s) (g : DGet H a y (some v)) (ry : RelV y u) (h : ∀ w' s', Inv X pins σ H s' → RelV v w' → Q w' s') :
    wpAny (model X.prog X.w) A (getItem (.ref a) u) Q E s := by
  rcases g with ⟨kvs, k, e, ey, l⟩ | ⟨kvs, k, b, e, ey, eb, l⟩
  · subst ey
    obtain ⟨z, hd, vs, rel, dd⟩ := dk_rd I.hok e
    obtain ⟨w', hw, rw'⟩ := RelO.some_of (v := v) (o := valueAt vs k) (by rw [l]; exact rel.val k)
    exact wpAny_getItem_of (kV_is ry) dd.mapOf hw (h w' _ (I.tok _) rw')
  · subst ey
    cases (show u = Value.ref b from ry)
    obtain ⟨z, hd, xs, rel, dd⟩ := dt_rd I.hok e
    obtain ⟨w', hw, rw'⟩ := RelO.some_of (v := v) (o := (atKey xs k).map (·.2)) (by rw [l]; exact rel.val k)
    obtain ⟨p, hp, hp2⟩ := Option.map_eq_some_iff.mp hw
    refine wpAny_getItem_heap (tupleKind_room_in1 hu) (key_of I.hok eb) dd hp ?_
    rw [hp2]
    exact h w' _ (I.tok _) rw'
theorem d_notIn {Q : Value → Shared → Prop} (hu : A.units + 1 < cLine) (I : Inv X pins σ H s) (g : DGet H a y o) (ry : RelV y u) (h : ∀ s', Inv X pins σ H s' → Q (.bool (!o.isSome)) s') :
    wpAny (model X.prog X.w) A (compareOp .NotIn u (.ref a)) Q E s := by
  rcases g with ⟨kvs, k, e, ey, l⟩ | ⟨kvs, k, b, e, ey, eb, l⟩
  · subst ey
    obtain ⟨z, hd, vs, rel, dd⟩ := dk_rd I.hok e
    refine wpAny_notIn_of (kV_is ry) hd dd.mapOf ?_
    rw [← (rel.val k).isSome_eq, ← l]
    exact h _ (I.tok _)
  · subst ey
    cases (show u = Value.ref b from ry)
    obtain ⟨z, hd, xs, rel, dd⟩ := dt_rd I.hok e
    refine wpAny_notIn_heap (tupleKind_room_in1 hu) (key_of I.hok eb) hd dd ?_
    have q := (rel.val k).isSome_eq
    rw [Option.isSome_map] at q
    rw [← q, ← l]
    exact h _ (I.tok _)
theorem d_write {h' : Heap} {t' : Nat} {ob : HO} (I : Inv X pins σ H s) (mu : Mut (H a)) (hs : Heap.SameBut a s.heap h') (he : ∃ q, h'.get? a = some q) (new : ObjOk X.prog X.w (upd H a ob) h' a ob) :
    Inv X pins σ (upd H a ob) { s with heap := h', toks := t' } :=
  I.write (x := a) (e := a) mu (.inl rfl) (fun b q hb z => (hs.2 b hb).trans z) he new
theorem dk_new {P : Program} {w : World} {H' : Hp} {h' : Heap} {kvs : List (Key × V)} {vs : List (Key × Value)} (z : kvs.length ≤ sizeLine) (hd : (a == sysModules) = false) (rel : KV kvs vs) (dd : h'.DictOf (mixKind P w) a vs) :
    ObjOk P w H' h' a (.dK kvs) := ⟨z, hd, vs, rel, dd⟩
theorem d_setItem {H' : Hp} {Q : Unit → Shared → Prop} (hu : A.units + 1 < cLine) (I : Inv X pins σ H s) (g : DPut H a y v H') (ry : RelV y u) (rv : RelV v r) (h : ∀ s', Inv X pins σ H' s' → Q () s') :
    wpAny (model X.prog X.w) A (setItem (.ref a) u r) Q E s := by
  rcases g with ⟨kvs, k, e, ey, l, eH⟩ | ⟨kvs, k, b, e, ey, eb, l, eH⟩
  · subst ey eH
    obtain ⟨z, hd, vs, rel, dd⟩ := dk_of I.hok e
    have hz : vs.length ≤ sizeLine := by rw [← rel.length]; exact z
    have hl : (putK kvs k v).length ≤ sizeLine := by have := length_putK kvs k v; omega
    refine wpAny_setItem_pairs (hsz := hz) (kV_is ry) dd fun h' dd' hs => h _ ?_
    have he : ∃ q, h'.get? a = some q := let ⟨q, _, _, hq, _⟩ := dd'; ⟨q, hq⟩
    exact d_write I (by rw [e]; exact True.intro) hs he (dk_new hl hd (rel.put k rv) dd')
  · subst ey eH
    cases (show u = Value.ref b from ry)
    obtain ⟨z, hd, xs, rel, dd⟩ := dt_of I.hok e
    have hz : xs.length ≤ sizeLine := by rw [← Paired.length rel]; exact z
    have hl : (putK kvs k v).length ≤ sizeLine := by have := length_putK kvs k v; omega
    refine wpAny_setItem_heap (hsz := hz) (tupleKind_room_in1 hu) (key_of I.hok eb) dd fun h' dd' hs => h _ ?_
    obtain ⟨q, es, ep, hq, h2, h3, h4, _, h5⟩ := dd'
    refine d_write I (by rw [e]; exact True.intro) hs ⟨q, hq⟩ ⟨hl, hd, _, (rel.put k eb rv).keeps fun c ys ec => ?_, q, es, ep, hq, h2, h3, h4, h5⟩
    rw [upd_ne (ne_of ec e (fun z => nomatch z))]
    exact ec
end

section
variable {X : Cx} {pins : List (Addr × Obj)} {σ : St} {H : Hp} {s : Shared} {a : Addr} {kvs : List (Key × V)} {k : Key} {u : Value} {A : Around} {E : Value → Shared → Prop}
end


def NoSl (i : Expr) : Prop := ∀ ov iv, subscripted i false ov iv = operate [ov, iv] (getItem ov iv)
theorem subD_of {prog : Program} {w : World} {A : Around} {E : Value → Shared → Prop} {s : Shared} {env : Env} {value slice : Expr} {pos : Pos} {T id : String} {Q : Value → Shared → Prop}
    (hl : typeLookup (.type T) "__getitem__" = pure (some (.builtin id))) (hs : NoSl slice)
    (h : wpAny (model prog w) A (eval value env) (fun o s₁ => wpAny (model prog w) A (eval slice env) (fun i s₂ => s₂.TypeIs o T ∧ wpAny (model prog w) A (getItem o i) Q E s₂) E s₁) E s) :
    wpAny (model prog w) A (eval (.Subscript value slice pos) env) Q E s := by
  refine Subscript_ (wpAny_mono h (fun o s₁ h₁ => wpAny_mono h₁ (fun i s₂ h₂ => ?_) fun _ _ x => x) fun _ _ x => x)
  obtain ⟨hT, h₂⟩ := h₂
  unfold subscriptTail
  refine wpAny_bind ?_
  rw [getitemInPython_of_ne hT.not_modules]
  refine wpAny_bind (wpAny_specialOf hT hl ?_)
  have fin : wpAny (model prog w) A (subscripted slice false o i) (fun r s₃ => wpAny (model prog w) A (letTemporaryGo value o r >>= fun _ => pure r) Q E s₃) E s₂ := by
    rw [hs o i]
    exact wpAny_operating (wpAny_mono h₂ (fun r s₃ h₃ => wpAny_bind (wpAny_letTemporaryGo (wpAny_pure h₃))) fun _ _ x => x)
  first
    | exact wpAny_pure (wpAny_bind fin)
    | exact wpAny_bind (wpAny_pure (wpAny_bind fin))
    | exact wpAny_bind fin

theorem dict_typeIs {X : Cx} {pins : List (Addr × Obj)} {σ : St} {H : Hp} {s : Shared} {a : Addr} {y : V} {o : Option V} (I : Inv X pins σ H s) (g : DGet H a y o) : s.TypeIs (.ref a) "dict" := by
  rcases g with ⟨kvs, k, e, _, _⟩ | ⟨kvs, k, b, e, _, _, _⟩
  · obtain ⟨_, _, vs, _, dd⟩ := dk_rd I.hok e
    exact dd.typeIs
  · obtain ⟨_, _, xs, _, dd⟩ := dt_rd I.hok e
    exact dd.typeIs
def tDGet (td ty : TE) : TE := fun σ H Q => td σ H fun x H1 => ty σ H1 fun y H2 => ∃ a v, x = .ref a ∧ DGet H2 a y (some v) ∧ Q v H2
def tDIn (ty td : TE) : TE := fun σ H Q => ty σ H fun y H1 => td σ H1 fun x H2 => ∃ a o, x = .ref a ∧ DGet H2 a y o ∧ Q (.bl o.isSome) H2
def tDNotIn (ty td : TE) : TE := fun σ H Q => ty σ H fun y H1 => td σ H1 fun x H2 => ∃ a o, x = .ref a ∧ DGet H2 a y o ∧ Q (.bl (!o.isSome)) H2
def sDPut (td ty tv : TE) : TS := fun D σ H => tv σ H fun v H1 => td σ H1 fun x H2 => ty σ H2 fun y H3 => ∃ a H4, x = .ref a ∧ DPut H3 a y v H4 ∧ D.nx σ H4
section
variable {X : Cx} {o i e value : Expr} {pos pos' tpos : Pos} {td ty tv : TE}
theorem pe_dget (hu : X.A.units + 1 < cLine) (ho : PE X o td) (hi : PE X i ty) (hs : NoSl i) : PE X (.Subscript o i pos) (tDGet td ty) := by
  intro pins s σ H Q I h
  refine subD_of PySem.F.slot_dict_getitem.lookup hs (thn (ho pins s σ H _ I h) fun u s1 ⟨x, H1, I1, rx, q1⟩ => thn (hi pins s1 σ H1 _ I1 q1) fun iv s2 ⟨y, H2, I2, ry, a, v, ex, g, q2⟩ => ?_)
  subst ex
  obtain rfl : u = Value.ref a := rx
  exact ⟨dict_typeIs I2 g, d_getItem hu I2 g ry fun w' s3 I3 rw' => ⟨v, H2, I3, rw', q2⟩⟩
theorem pc_dnotin (hu : X.A.units + 1 < cLine) (hi : PE X i ty) (ho : PE X o td) : PC X .NotIn i o (tDNotIn ty td) := by
  intro pins s σ H Q I h
  refine thn (hi pins s σ H _ I h) fun iv s1 ⟨y, H1, I1, ry, q1⟩ => thn (ho pins s1 σ H1 _ I1 q1) fun u s2 ⟨x, H2, I2, rx, a, ov, ex, g, q2⟩ => ?_
  subst ex
  obtain rfl : u = Value.ref a := rx
  exact d_notIn hu I2 g ry fun s3 I3 => ⟨.bl (!ov.isSome), H2, I3, rfl, q2⟩
theorem ps_dput (hu : X.A.units + 1 < cLine) (ho : PE X o td) (hi : PE X i ty) (hv : PE X value tv) (hs : swapsWith value (some (.Subscript o i pos')) pos.line X.env = pure false) :
    PS X (.Assign [.Subscript o i pos'] value pos) (sDPut td ty tv) := by
  intro pins s σ H D I h
  refine wpAny_Assign_Subscript (thn (hv pins s σ H _ I h) fun r s1 ⟨v, H1, I1, rv, q1⟩ => thn (ho pins s1 σ H1 _ I1 q1) fun u s2 ⟨x, H2, I2, rx, q2⟩ => thn (hi pins s2 σ H2 _ I2 q2) fun iv s3 ⟨y, H3, I3, ry, a, H4, ex, g, q3⟩ => ?_) hs
  subst ex
  obtain rfl : u = Value.ref a := rx
  exact d_setItem hu I3 g ry rv fun s4 I4 => ⟨σ, H4, I4, q3⟩
end


theorem dk_empty {P : Program} {w : World} {H : Hp} (h : Heap) (hb : sysModules < h.objs.size) : ObjOk P w H (h.push { cls := .type "dict", data := .dict #[] }) h.objs.size (.dK []) :=
  ⟨Nat.zero_le _, beq_eq_false_iff_ne.mpr (Ne.symm (Nat.ne_of_lt hb)), [], .nil, Heap.DictOf.new h⟩
def tDNewK : TE := fun _ H Q => ∀ p, H p = none → Q (.ref p) (upd H p (.dK []))
section
variable {X : Cx} {pos : Pos}
theorem pe_dnewK : PE X (.Dict [] [] pos) tDNewK := fun pins s σ H Q I h =>
  wpAny_Dict_empty ⟨.ref s.heap.objs.size, _, I.laid (a := s.heap.objs.size) (o := .dK []) (t' := s.toks) (fun _ _ q => Heap.get?_push_of_some _ q) (Nat.le_refl _) (dk_empty s.heap I.big), rfl, h _ (I.hok.fresh (Nat.le_refl _))⟩
end

structure M1 (X : Cx) (o : Expr) (m : Str) (apos : Pos) (e : Expr) (cpos : Pos) : Prop where
  base : attributeBase o m X.env (eval o X.env) = eval o X.env
  few : ((backTo cpos (starEach [e] X.env)).all (fun x => !x.1) && (backToKw cpos (keywordEach [] X.env)).all (fun x => x.1.isSome)
    && decide (([e] : List Expr).length + ([] : List Keyword).length + (if ([] : List Keyword).isEmpty then 0 else 1) < 30)) = true
  line : (apos.endLine == cpos.line) = true
  trees : backTo cpos (starEach [e] X.env) = [(false, eval e X.env)]
structure M2 (X : Cx) (o : Expr) (m : Str) (apos : Pos) (e f : Expr) (cpos : Pos) : Prop where
  base : attributeBase o m X.env (eval o X.env) = eval o X.env
  few : ((backTo cpos (starEach [e, f] X.env)).all (fun x => !x.1) && (backToKw cpos (keywordEach [] X.env)).all (fun x => x.1.isSome)
    && decide (([e, f] : List Expr).length + ([] : List Keyword).length + (if ([] : List Keyword).isEmpty then 0 else 1) < 30)) = true
  line : (apos.endLine == cpos.line) = true
  trees : backTo cpos (starEach [e, f] X.env) = [(false, eval e X.env), (false, eval f X.env)]

section
variable {X : Cx} {pins : List (Addr × Obj)} {σ : St} {H : Hp} {s : Shared} {a : Addr} {y d : V} {u r : Value} {o : Option V} {A : Around} {E : Value → Shared → Prop}
end

section
variable {X : Cx} {o e f : Expr} {apos cpos : Pos} {td ty tx : TE}
end

section
variable {X : Cx} {pins : List (Addr × Obj)} {σ : St} {H : Hp} {s : Shared} {a : Addr} {kvs : List (Key × V)} {A : Around} {E : Value → Shared → Prop}
end


section
variable {X : Cx} {pins : List (Addr × Obj)} {σ : St} {H : Hp} {s : Shared} {a : Addr} {y : V} {u : Value} {A : Around} {E : Value → Shared → Prop}
end
end L2
namespace L2
open PySem PySem.Spec PyProof.Rows

theorem compLoop_any {prog : Program} {w : World} {A : Around} {R : Result → Shared → Prop} {s : Shared} {elt target iter : Expr} {ifs : List Expr} {scope : Scope} {pos : Pos} {it acc : Value} {env : Env} (J : Nat → Shared → Prop)
    (turn : ∀ n s, J n s → wpAny (model prog w) A (pyNext it) (fun r s₁ => match r with
      | none => R (.ok .next) s₁
      | some v => wpAny (model prog w) A (letOwnedTupleGo target it v) (fun _ s₁' => wpAny (model prog w) A (assign target env v) (fun _ s₂ =>
          wpAny (model prog w) A (forIn ifs true fun c r => if r = true then do let ok ← isTrue c env (eval c env); pure (ForInStep.yield ok) else pure (ForInStep.yield r)) (fun ok s₃ =>
            if ok = true then wpAny (model prog w) A (eval elt env) (fun x s₄ =>
              wpAny (model prog w) A (call (.builtin "list.append") [acc, x]) (fun _ s₅ => ∃ m, m < n ∧ J m s₅) (fun _ _ => False) s₄) (fun _ _ => False) s₃
            else ∃ m, m < n ∧ J m s₃) (fun _ _ => False) s₂) (fun _ _ => False) s₁') (fun _ _ => False) s₁) (fun _ _ => False) s)
    (n : Nat) (h : J n s) : codeAny (model prog w) A (.compLoop (.ListComp elt [⟨target, iter, ifs, 0⟩] scope pos) 0 it acc env) R s := by
  refine codeAny_loop rfl J (fun n s hI => ?_) n h
  show wpAny _ A ((compTurn (.ListComp elt [⟨target, iter, ifs, 0⟩] scope pos) 0 it acc env).onRaise (fun x => do noteFrame x env; theTreesLotGoes x)) _ _ s
  refine wpAny_noted ?_
  rw [compTurn_list]
  refine wpAny_bind (wpAny_standAt (wpAny_bind (wpAny_mono (turn n s hI) (fun r s₁ h₁ => ?_) fun _ _ h' => h'.elim)))
  cases r with
  | none => exact wpAny_pure h₁
  | some v =>
    refine wpAny_bind (wpAny_mono h₁ (fun _ s₁' h₁' => ?_) fun _ _ h' => h'.elim)
    refine wpAny_bind (wpAny_mono h₁' (fun _ s₂ h₂ => wpAny_bind (wpAny_mono h₂ (fun ok s₃ h₃ => ?_) fun _ _ h' => h'.elim)) fun _ _ h' => h'.elim)
    cases ok with
    | false => exact wpAny_pure ⟨rfl, h₃⟩
    | true => exact wpAny_bind (wpAny_bind (wpAny_mono h₃ (fun x s₄ h₄ => wpAny_bind (wpAny_mono h₄ (fun _ s₅ h₅ => wpAny_pure (wpAny_pure ⟨rfl, h₅⟩)) fun _ _ h' => h'.elim)) fun _ _ h' => h'.elim))

def cxComp (X : Cx) (N : List Str) (scope : Scope) (cl : List (Str × Addr)) (s : Shared) (H : Hp) (fp : List Addr) : Cx :=
  { X with N := N, s₀ := s, H₀ := H, env := compEnvC scope cl s.heap.objs.size X.env, outer := X.stack, ex := fp, fn := fun _ => false, pn := [], xe := fun _ _ => False }

structure CompSc (X : Cx) (own capt : List Str) (scope : Scope) (cl : List (Str × Addr)) (fr : List Nat) : Prop where
  clos : closureFor scope X.env = pure cl
  nocell : ∀ y ∈ scope.names, y.2 ≠ .cell
  kind : scope.kind = .function
  names : ∀ y ∈ scope.names, y.2 = .local → scope.names.lookup y.1 = some .local
  inn : ∀ y c, cl.lookup y = some c → X.env.cells.lookup y = some c
  has : ∀ y, ((relabel scope X.env).names.lookup y = some .cell ∨ (relabel scope X.env).names.lookup y = some .free) → ∃ c, cl.lookup y = some c
  cap : ∀ (k : Nat) (y : Str), capt[k]? = some y → ∃ j c, fr[k]? = some j ∧ X.N[j]? = some y ∧ X.env.scope.names.lookup y = some .cell ∧ cl.lookup y = some c ∧
    ((relabel scope X.env).names.lookup y = some .cell ∨ (relabel scope X.env).names.lookup y = some .free)
  len : capt.length = fr.length
theorem CompSc.none {X : Cx} {own : List Str} {scope : Scope} (h1 : ∀ y ∈ scope.names, y.2 ≠ .free) (h2 : ∀ y ∈ scope.names, y.2 ≠ .cell) (kind : scope.kind = .function) (names : ∀ y ∈ scope.names, y.2 = .local → scope.names.lookup y.1 = some .local) :
    CompSc X own [] scope [] [] where
  clos := closureFor_none h1
  nocell := h2
  kind := kind
  names := names
  inn := fun y c e => nomatch e
  has := fun y e => by
    have mem : ∀ (l : List (Str × NameKind)) (y : Str) (k : NameKind), l.lookup y = some k → ∃ z ∈ l, z.2 = k := by
      intro l
      induction l with
      | nil => intro y k e; cases e
      | cons a r ih =>
        intro y k e
        obtain ⟨n, q⟩ := a
        rw [List.lookup_cons] at e
        cases hy : y == n with
        | true => rw [hy] at e; exact ⟨(n, q), by simp, Option.some.inj e⟩
        | false =>
          rw [hy] at e
          obtain ⟨z, hz, e2⟩ := ih y k e
          exact ⟨z, by simp [hz], e2⟩
    exfalso
    have same : (relabel scope X.env).names = scope.names := by
      unfold relabel
      exact map_eq_self (l := scope.names) fun x hx => by
        obtain ⟨n, k⟩ := x
        have : (k == NameKind.free) = false := by simpa using h1 _ hx
        simp [this]
    rw [same] at e
    rcases e with e | e
    · obtain ⟨z, hz, e2⟩ := mem _ _ _ e; exact h2 z hz e2
    · obtain ⟨z, hz, e2⟩ := mem _ _ _ e; exact h1 z hz e2
  cap := fun k y e => by simp at e
  len := rfl

def st0 (own : List Str) (fr : List Nat) (σ : St) : St := own.map (fun _ => Option.none) ++ fr.map fun j => (σ[j]?).join

theorem cxComp_ok {X : Cx} {pins : List (Addr × Obj)} {σ : St} {H : Hp} {s : Shared} {own capt : List Str} {scope : Scope} {cl : List (Str × Addr)} {fr : List Nat} {fp : List Addr} (C : CompSc X own capt scope cl fr)
    (I : Inv X pins σ H s) (hf : ∀ b ∈ fp, FpOk X pins H b ∧ b < s.heap.objs.size) : (cxComp X (own ++ capt) scope cl s H fp).Ok where
  mod := I.ok.mod
  kind := C.kind
  glob := I.ok.glob
  blt := I.ok.blt
  above := Nat.le_refl _
  inj := fun x y c e1 e2 => I.ok.inj x y c (C.inn x c e1) (C.inn y c e2)
  has := fun x e => C.has x e
  cab := fun x c e _ => by cases e
  hd := I.ok.hd
  frames := I.ok.frames
  stk := .inl rfl
  exf := fun b hb => ⟨Nat.ne_of_lt (hf b hb).2, fun x c e => (hf b hb).1.2.2.2.2.1 x c (C.inn x c e)⟩
  bs := I.bs
  bsz := Nat.le_trans I.ok.bsz I.sz
  noex := fun b o e hb => by
    rcases (hf b hb).1.2.2.2.1 with z | z
    · exact I.ok.noex b o e z
    · exact absurd (Nat.lt_of_lt_of_le (Heap.lt_size e) (Nat.le_trans I.ok.bsz z)) (Nat.lt_irrefl _)
  exfs := fun b hb z => by
    rcases List.mem_cons.mp (I.stkSub b z) with e | z
    · exact (hf b hb).1.2.1 e
    · exact (hf b hb).1.2.2.1 z
  funs := I.stack
  frf := I.stkFree

theorem cxComp_start {X : Cx} {pins : List (Addr × Obj)} {σ : St} {H : Hp} {s : Shared} {own capt : List Str} {scope : Scope} {cl : List (Str × Addr)} {fr : List Nat} {fp : List Addr} {h' : Heap} {t' : Nat} {m' : Str → Option Value} (C : CompSc X own capt scope cl fr)
    (I : Inv X pins σ H s) (hf : ∀ b ∈ fp, FpOk X pins H b ∧ b < s.heap.objs.size) (hn : h'.Ns s.heap.objs.size m') (k : ∀ b o, s.heap.get? b = some o → h'.get? b = some o) :
    Inv (cxComp X (own ++ capt) scope cl s H fp) [] (st0 own fr σ) H { s with heap := h', toks := t' } where
  ok := cxComp_ok C I hf
  os := rfl
  bare := I.bare
  base := Un.kept k
  loc := by
    obtain ⟨m, _, hl⟩ := I.loc
    refine ⟨m', hn, fun i y v e1 e2 _ => ?_⟩
    have e1' : (own ++ capt)[i]? = some y := e1
    unfold st0 at e2
    by_cases hi : i < own.length
    · rw [List.getElem?_append_left (by simpa using hi)] at e2
      rw [List.getElem?_map] at e2
      cases q : own[i]? with
      | none => rw [q] at e2; cases e2
      | some _ => rw [q] at e2; cases e2
    · rw [List.getElem?_append_right (by simpa using hi)] at e2
      rw [List.getElem?_append_right (by simpa using hi)] at e1'
      simp only [List.length_map] at e2
      obtain ⟨j, c, f1, f2, f3, f4, f5⟩ := C.cap _ y e1'
      rw [List.getElem?_map, f1] at e2
      have e3 : (σ[j]?).join = some v := Option.some.inj e2
      have e4 : σ[j]? = some (some v) := by
        cases q : σ[j]? with
        | none => rw [q] at e3; cases e3
        | some z => rw [q] at e3; exact congrArg some e3
      obtain ⟨u, r, l⟩ := hl j y v f2 e4 (.inr (.inl f3))
      refine ⟨u, r, .inr ⟨f5, c, f4, ?_⟩⟩
      rcases l with ⟨k1, _⟩ | ⟨_, c', h1, h2⟩
      · have k1' : X.env.scope.names.lookup y = some .local := k1
        rw [f3] at k1'; cases k1'
      · rw [C.inn y c f4] at h1
        cases h1
        obtain ⟨o, ho, hd⟩ := h2
        exact ⟨o, k _ _ ho, hd⟩
  cell := fun y c e => by
    obtain ⟨v, o, ho, hd⟩ := I.cell y c (C.inn y c e)
    exact ⟨v, o, k _ _ ho, hd⟩
  free := I.hok.fresh (Nat.le_refl _)
  freeC := fun y c e => I.freeC y c (C.inn y c e)
  pin := fun p hp => by
    have : p ∈ ([] : List (Addr × Obj)) := hp
    cases this
  hok := I.hok.kept k
  len := by
    show (st0 own fr σ).length = (own ++ capt).length
    unfold st0
    simp [C.len]

theorem cxComp_end {X : Cx} {pins : List (Addr × Obj)} {σ σ' : St} {H H' : Hp} {s s' : Shared} {N : List Str} {scope : Scope} {cl : List (Str × Addr)} {fp : List Addr} {pins' : List (Addr × Obj)} {h' : Heap}
    (I : Inv X pins σ H s) (hf : ∀ b ∈ fp, FpOk X pins H b ∧ b < s.heap.objs.size) (J : Inv (cxComp X N scope cl s H fp) pins' σ' H' s') (hs : Heap.SameBut s.heap.objs.size s'.heap h') :
    Inv X pins σ H' { s' with heap := h' } := by
  have fr : H' s.heap.objs.size = none := J.free
  have ne : ∀ {b : Addr} {o : Obj}, s.heap.get? b = some o → b ≠ s.heap.objs.size := fun e => Nat.ne_of_lt (Heap.lt_size e)
  have B : Un (frs X.stack) fp H H' s.heap s'.heap := J.base
  refine I.call' (s' := { s' with heap := h' }) (ch := fp) J.os ?_ ?_ J.bare fun b hb => ⟨(hf b hb).1.2.2.2.1, (hf b hb).1.2.1, (hf b hb).1.2.2.2.2.1, (hf b hb).1.2.2.2.2.2⟩
  · exact ⟨fun b o e n h1 h2 => (hs.2 b (ne e)).trans (B.keep b o e n h1 h2), fun b o e n h1 h2 => let ⟨sl, q⟩ := B.slot b o e n h1 h2; ⟨sl, (hs.2 b (ne e)).trans q⟩, B.free,
      fun b o e h1 => let ⟨o', q⟩ := B.there b o e h1; ⟨o', (hs.2 b (ne e)).trans q⟩, B.tups, B.frzs, B.tbls⟩
  · intro b ob e
    refine (J.hok b ob e).stay (fun c w' hc q => (hs.2 c ?_).trans q) (fun _ q => q) fun _ _ q => q
    rintro rfl
    rcases hc with rfl | hc
    · rw [fr] at e; cases e
    · rw [fr] at hc; cases hc

def PTs (X : Cx) (ifs : List Expr) (t : TT) : Prop :=
  ∀ (pins : List (Addr × Obj)) (s : Shared) (σ : St) (H : Hp) (Q : Bool → Hp → Prop), Inv X pins σ H s → t σ H Q →
    wpAny (model X.prog X.w) X.A (forIn ifs true fun c r => if r = true then do let ok ← isTrue c X.env (eval c X.env); pure (ForInStep.yield ok) else pure (ForInStep.yield r)) (TP X pins σ Q) X.xe s
def tTrue : TT := fun _ H Q => Q true H
theorem pts_nil {X : Cx} : PTs X [] tTrue := fun _ _ _ H _ I h => wpAny_tests_nil ⟨H, I, h⟩
theorem pts_one {X : Cx} {c : Expr} {t : TT} (hc : PT X c t) : PTs X [c] t := fun pins s σ H Q I h => wpAny_tests_one (hc pins s σ H Q I h)

def tComp (wi : TI) (g : TG) (tt : TT) (te : TE) (own : List Str) (fr : List Nat) : TE := fun σ H Q => wi σ H fun J H1 => ∀ D, H1 D = none → ∃ W : Nat → Nat → St → Hp → Prop, (∃ m, W 0 m (st0 own fr σ) (upd H1 D (.lst []))) ∧ ∀ i m σc H, W i m σc H →
  (J.stop i H ∧ Q (.ref D) H) ∨ (J.go i H ∧ ∃ N : St → Hp → Prop, (∀ σ' H', N σ' H' → ∃ m', m' < m ∧ W (i + 1) m' σ' H') ∧ ∀ x H', J.yld i H x H' → g x σc H' fun σ2 H2 => tt σ2 H2 fun b H3 =>
    if b = true then te σ2 H3 fun y H4 => ∃ ys, H4 D = some (.lst ys) ∧ ys.length < sizeLine ∧ N σ2 (upd H4 D (.lst (ys ++ [y]))) else N σ2 H3)

theorem comp_core {X : Cx} {own capt : List Str} {scope : Scope} {cl : List (Str × Addr)} {fr : List Nat} {tg iter elt : Expr} {ifs : List Expr} {wi : TI} {g : TG} {tt : TT} {te : TE} {pos : Pos} (C : CompSc X own capt scope cl fr) (hc : X.calm = true)
    (hi : PI X tg iter wi) (hg : ∀ s H fp, PG (cxComp X (own ++ capt) scope cl s H fp) tg g) (ht : ∀ s H fp, PTs (cxComp X (own ++ capt) scope cl s H fp) ifs tt) (he : ∀ s H fp, PE (cxComp X (own ++ capt) scope cl s H fp) elt te)
    {pins : List (Addr × Obj)} {s : Shared} {σ : St} {H : Hp} {Q : VK} {RR : Value → Addr → Result → Shared → Prop} (I : Inv X pins σ H s) (h : tComp wi g tt te own fr σ H Q)
    (hR : ∀ (D C : Addr) (H' : Hp) (s' : Shared) (m : Str → Option Value), s'.heap.Ns C m → FpOk X pins H' C → (∀ h', Heap.SameBut C s'.heap h' → Inv X pins σ H' { s' with heap := h' }) → Q (.ref D) H' → RR (.ref D) C (.ok .next) s') :
    wpAny (model X.prog X.w) X.A (eval iter X.env) (fun x s₁ => wpAny (model X.prog X.w) X.A (pyIter x) (fun it s₂ => wpAny (model X.prog X.w) X.A (newList []) (fun acc s₃ =>
      wpAny (model X.prog X.w) X.A (newFunctionEnv scope X.env.globals cl [] X.env.qual none .none (some X.env)) (fun cenv s₄ =>
        codeAny (model X.prog X.w) X.A (.compStart (.ListComp elt [⟨tg, iter, ifs, 0⟩] scope pos) 0 it acc { cenv with scope := relabel scope X.env }) (RR acc cenv.locals) s₄) X.xe s₃) X.xe s₂) X.xe s₁) X.xe s := by
  refine thn (hi pins s σ H _ I h) fun v s1 h1 => thn h1 fun itv s2 h2 => ?_
  obtain ⟨it, fp, tn, J, H2, e, I2, T, st2, f2, h2⟩ := h2
  subst e
  obtain ⟨W, ⟨m0, w0⟩, turn⟩ := h2 s2.heap.objs.size I2.fresh
  refine wpAny_newObj_type ?_
  have I3 : Inv X pins σ (upd H2 s2.heap.objs.size (.lst [])) { s2 with heap := s2.heap.push { cls := .type "list", data := .seq ([] : List Value).toArray } } := I2.lnew (ys := []) (its := []) (t' := s2.toks) .nil (Nat.zero_le _)
  generalize hs3 : ({ s2 with heap := s2.heap.push { cls := .type "list", data := .seq ([] : List Value).toArray } } : Shared) = s3 at I3 ⊢
  have keep3 : ∀ b o, s2.heap.get? b = some o → s3.heap.get? b = some o := fun b o e => by rw [← hs3]; exact Heap.get?_push_of_some _ e
  have sz3 : s2.heap.objs.size < s3.heap.objs.size := by rw [← hs3]; show _ < (s2.heap.push _).objs.size; rw [Heap.size_push]; exact Nat.lt_succ_self _
  have fin : ∀ b ∈ fp, b < s2.heap.objs.size := fun b hb => by obtain ⟨o, e, _⟩ := T.obj _ _ st2 b hb; exact Heap.lt_size e
  have f3 : ∀ b ∈ fp, FpOk X pins (upd H2 s2.heap.objs.size (.lst [])) b ∧ b < s3.heap.objs.size := fun b hb => by
    obtain ⟨a1, a2⟩ := f2 b hb
    exact ⟨⟨by rw [upd_ne (Nat.ne_of_lt (fin b hb))]; exact a1, a2⟩, Nat.lt_trans (fin b hb) sz3⟩
  refine wpAny_newFunctionEnv C.nocell (by intro y hy; simp at hy) (fun h4 hn4 hs4 => ?_) C.kind
  have keep4 : ∀ b o, s3.heap.get? b = some o → h4.get? b = some o := fun b o e => (hs4.2 b (Nat.ne_of_lt (Heap.lt_size e))).trans (Heap.get?_push_of_some _ e)
  have I4 : Inv (cxComp X (own ++ capt) scope cl s3 (upd H2 s2.heap.objs.size (.lst [])) fp) [] (st0 own fr σ) (upd H2 s2.heap.objs.size (.lst [])) { s3 with heap := h4, toks := s3.toks + ([] : List (Str × Value)).length } := cxComp_start C I3 f3 hn4 keep4
  have st4 : tn 0 h4 := T.keep _ _ _ st2 fun b _ o e => keep4 b o (keep3 b o e)
  generalize hs5 : ({ s3 with heap := h4, toks := s3.toks + ([] : List (Str × Value)).length } : Shared) = s5 at I4 ⊢
  have st5 : tn 0 s5.heap := by rw [← hs5]; exact st4
  generalize hX : cxComp X (own ++ capt) scope cl s3 (upd H2 s2.heap.objs.size (.lst [])) fp = Y at I4
  have hY1 : Y.prog = X.prog := by rw [← hX]; rfl
  have hY2 : Y.w = X.w := by rw [← hX]; rfl
  have hY3 : Y.K = X.K := by rw [← hX]; rfl
  have hY4 : Y.A = X.A := by rw [← hX]; rfl
  have hY5 : Y.calm = true := by rw [← hX]; exact hc
  have hY6 : Y.env = compEnvC scope cl s3.heap.objs.size X.env := by rw [← hX]; rfl
  have hY7 : Y.xe = fun _ _ => False := by rw [← hX]; rfl
  have gY : PG Y tg g := by rw [← hX]; exact hg _ _ _
  have tY : PTs Y ifs tt := by rw [← hX]; exact ht _ _ _
  have eY : PE Y elt te := by rw [← hX]; exact he _ _ _
  have fY : ∀ {H' : Hp}, (∀ b ∈ fp, H' b = none) → ∀ b ∈ fp, FpOk Y [] H' b := fun {H'} hn b hb => by
    have ok := I4.ok
    refine ⟨hn b hb, (ok.exf b (by rw [← hX]; exact hb)).1, ok.exfs b (by rw [← hX]; exact hb), .inl (by rw [← hX]; exact hb), fun x c e => (ok.exf b (by rw [← hX]; exact hb)).2 x c e, fun p hp => ?_⟩
    have : p ∈ ([] : List (Addr × Obj)) := by rw [← hX] at hp; exact hp
    cases this
  have loop : ∀ s6, s6 = s5 → codeAny (model X.prog X.w) X.A (.compLoop (.ListComp elt [⟨tg, iter, ifs, 0⟩] scope pos) 0 (.ref it) (.ref s2.heap.objs.size) (compEnvC scope cl s3.heap.objs.size X.env)) (RR (.ref s2.heap.objs.size) s3.heap.objs.size) s6 := by
    rintro s6 rfl
    refine compLoop_any (fun n s' => ∃ i σ' H', Inv Y [] σ' H' s' ∧ tn i s'.heap ∧ (∀ b ∈ fp, H' b = none) ∧ W i n σ' H') ?_ m0 ⟨0, _, _, I4, st5, fun b hb => (f3 b hb).1.1, w0⟩
    rintro n s7 ⟨i, σ7, H7, I7, st7, fr7, w7⟩
    have pn := hY1; have pw := hY2
    rcases turn i n σ7 H7 w7 with ⟨stop, qn⟩ | ⟨go, N, hN, step⟩
    · have z := T.done Y hY1 hY2 hY3 hY5 i [] s7 σ7 H7 (fun _ _ => False) I7 (fY fr7) st7 stop
      rw [hY4] at z
      refine thn z fun r s8 ⟨hr, I8⟩ => ?_
      subst hr
      obtain ⟨m8, hn8, _⟩ := I8.loc
      rw [hY6] at hn8
      have fC : H7 s3.heap.objs.size = none := by have z := I8.free; rw [hY6] at z; exact z
      refine hR _ _ H7 s8 m8 hn8 (I3.fpOk (Nat.le_refl _) fC) (fun h' sb => ?_) qn
      rw [← hX] at I8
      exact cxComp_end I3 f3 I8 sb
    · have z := T.item Y hY1 hY2 hY3 hY5 i [] s7 σ7 H7 (fun _ _ => False) I7 (fY fr7) st7 go
      rw [hY4] at z
      refine thn z fun r s8 ⟨u, hr, h8⟩ => ?_
      subst hr
      refine thn h8 fun _ s9 ⟨x, H9, I9, r9, y9, st9, fr9⟩ => ?_
      have I9' := I9.pinned (fY fr9) (T.obj _ _ st9)
      have z2 := gY _ s9 σ7 H9 x u _ I9' r9 (step x H9 y9)
      rw [hY1, hY2, hY4, hY6, hY7] at z2
      refine thn z2 fun _ sA ⟨σA, HA, IA, qA⟩ => ?_
      have z3 := tY _ sA σA HA _ IA qA
      rw [hY1, hY2, hY4, hY6, hY7] at z3
      refine thn z3 fun b sB ⟨HB, IB, qB⟩ => ?_
      have again : ∀ {σZ : St} {HZ : Hp} {sZ : Shared}, Inv Y ([] ++ pinsAt fp s9.heap) σZ HZ sZ → N σZ HZ → ∃ m, m < n ∧ ∃ i σ' H', Inv Y [] σ' H' sZ ∧ tn i sZ.heap ∧ (∀ b ∈ fp, H' b = none) ∧ W i m σ' H' := fun {σZ HZ sZ} IZ nZ => by
        obtain ⟨m', hm, wZ⟩ := hN σZ HZ nZ
        refine ⟨m', hm, i + 1, σZ, HZ, IZ.unpinned, T.keep _ _ _ st9 fun b hb o e => (IZ.pin (b, o) (List.mem_append_right _ (List.mem_append_right _ (mem_pinsAt hb e)))).1, fun b hb => ?_, wZ⟩
        obtain ⟨o, e, d⟩ := T.obj _ _ st9 b hb
        exact (IZ.pin (b, o) (List.mem_append_right _ (List.mem_append_right _ (mem_pinsAt hb e)))).2.1
      cases b with
      | false => exact again IB qB
      | true =>
        have z4 := eY _ sB σA HB _ IB qB
        rw [hY1, hY2, hY4, hY6, hY7] at z4
        refine thn z4 fun y sC ⟨vy, HC, IC, rC, ys, hD, hz, nC⟩ => ?_
        have z5 := mt_append (X := Y) _ sC σA HC (.ref s2.heap.objs.size) [vy] (.ref s2.heap.objs.size) [y] (fun _ H' => N σA H') IC rfl (.cons rC .nil) ⟨_, ys, vy, rfl, rfl, hD, hz, nC⟩
        rw [hY1, hY2, hY4, hY7] at z5
        exact thn z5 fun _ sD ⟨_, HD, ID, _, nD⟩ => again ID nD
  exact codeAny_compStart_list (loop _ rfl) (T.self _ 0 _ _ _ st5 (loop _ rfl))

theorem pe_comp {X : Cx} {own capt : List Str} {scope : Scope} {cl : List (Str × Addr)} {fr : List Nat} {tg iter elt : Expr} {ifs : List Expr} {wi : TI} {g : TG} {tt : TT} {te : TE} {pos : Pos} (C : CompSc X own capt scope cl fr) (hc : X.calm = true)
    (hi : PI X tg iter wi) (hg : ∀ s H fp, PG (cxComp X (own ++ capt) scope cl s H fp) tg g) (ht : ∀ s H fp, PTs (cxComp X (own ++ capt) scope cl s H fp) ifs tt) (he : ∀ s H fp, PE (cxComp X (own ++ capt) scope cl s H fp) elt te)
    (hs : ∀ x, foldedSetIterable iter X.env x = pure x := by intro _; rfl) : PE X (.ListComp elt [⟨tg, iter, ifs, 0⟩] scope pos) (tComp wi g tt te own fr) := by
  intro pins s σ H Q I h
  rw [eval_ListComp]
  refine wpAny_comprehension_free (use := none) rfl hs C.clos C.kind C.names ?_
  exact comp_core (RR := fun acc C => compPost (model X.prog X.w) X.A X.xe none (EP X pins σ Q) acc C) C hc hi hg ht he I h fun D C H' s' m hn _ hI q => ⟨m, hn, fun h' sb => ⟨.ref D, H', hI h' sb, rfl, q⟩⟩

end L2
namespace L2
open PySem PySem.Spec PyProof.Rows
def Has (P : Program) (w : World) (K : PySem.W.Frag) (mg : Str → Option Value) (base : Heap) (k : Nat) (x : Str) (ps : List Str) (sp : Sp) : Prop :=
  ∃ f fd, FnOk P w K mg base CX0 k f fd ps sp ∧ (∀ us : List Value, us.length = ps.length → bindArgs fd ⟨us, []⟩ = pure (ps.zip us)) ∧ PySem.W.keepIn K (.ref f) = true ∧ mg x = some (.ref f) ∧ ∃ oc od osl, K.lookup f = some ⟨oc, od, .func fd, osl⟩
theorem Has.mono {P : Program} {w : World} {K : PySem.W.Frag} {mg : Str → Option Value} {base : Heap} {j k : Nat} {x : Str} {ps : List Str} {sp : Sp} (h : Has P w K mg base j x ps sp) (hk : j ≤ k) : Has P w K mg base k x ps sp :=
  let ⟨f, fd, F, b⟩ := h
  ⟨f, fd, F.mono hk, b⟩
theorem pe_def {X : Cx} {k : Nat} {x : Str} {ps : List Str} {sp : Sp} {p pos : Pos} {e : Expr} {es : List Expr} {t : TA} (h : Has X.prog X.w X.K X.mg X.base k x ps sp) (hr : Room k X.A) (ha : PA X (e :: es) t) (hg : Gl X x := by rfl)
    (hdb : (x == ("__debug__" : Str)) = false := by decide) (he : starEach (e :: es) X.env = (false, eval e X.env) :: starEach es X.env := by rfl) (hpl : (backTo pos (starEach es X.env)).any (·.1) = false := by rfl) :
    PE X (.Call (.Name x p) (e :: es) [] pos) (tCall sp [] E0 t) := by
  obtain ⟨f, fd, F, hb, hk, hm, _⟩ := h
  exact pe_call F hr hg hm hk (.all hb) .nil pass0 ha hdb he hpl
def TF (K : PySem.W.Frag) (mg : Str → Option Value) (x : Str) (st : Stmt) : Prop := ∃ f fd, Fun K x x st f fd ∧ mg x = some (.ref f)
theorem tf_mk {K : PySem.W.Frag} {h : Heap} {mg : Str → Option Value} {x : Str} {st : Stmt} {f : Addr} {oc : Value} {od an : Option Addr} {osl : Array (Option Value)} {kV doc pm cdv ct : Value} (X : K.In h) (G : h.Ns mainGlobals mg)
    (a : PySem.W.nsIn K mainGlobals x = some (some (.ref f))) (l : K.lookup f = some ⟨oc, od, .func (PySem.W.fnOf x x (defArgs st) (defBody st) (defScope st) .none kV doc pm an cdv ct), osl⟩) (c : PySem.W.codeIn K cdv x = true) (k : PySem.W.keepIn K (.ref f) = true) : TF K mg x st :=
  ⟨f, _, fun_mk l c k, PySem.W.mg_of X G a⟩
theorem TF.has {P : Program} {w : World} {K : PySem.W.Frag} {mg : Str → Option Value} {base : Heap} {x : Str} {st : Stmt} {N ps : List Str} {k : Nat} {sp : Sp} (T : TF K mg x st) (S : FnScope N ps (defScope st))
    (hb : ∀ (kV doc pm : Value) (an : Option Addr) (cdv ct : Value) (us : List Value), us.length = ps.length → bindArgs (PySem.W.fnOf x x (defArgs st) (defBody st) (defScope st) .none kV doc pm an cdv ct) ⟨us, []⟩ = pure (ps.zip us))
    (len : ∀ vs H Q E, sp vs H Q E → vs.length = ps.length)
    (hbody : ∀ (f : Addr) (cdv : Value) (A : Around) (outer : List Env) (s : Shared) (H : Hp) (vs : List V) (Q : VK) (E : XK), Room k (A.deeper (envOfC x (defScope st) s.heap.objs.size f cdv)) → sp vs H Q E →
      ∃ t, PSs (cxOf CX0 P w K mg base N x (defScope st) f cdv A outer s H E).nox (defBody st) t ∧ t { nx := fun _ H' => Q .non H', rt := Q } (start N vs) H) : Has P w K mg base (k + 1) x ps sp := by
  obtain ⟨f, fd, F, m⟩ := T
  have ok := F.ok (P := P) (w := w) (mg := mg) (base := base) S len fun cdv A outer s H vs Q E hr hsp => hbody f cdv A outer s H vs Q E hr hsp
  obtain ⟨oc, od, kV, doc, pm, an, cdv, ct, osl, rfl, lk, hcd⟩ := F.ex
  exact ⟨f, _, ok, hb kV doc pm an cdv ct, F.kp, m, oc, od, osl, lk⟩
theorem has_law {P : Program} {w : World} {K : PySem.W.Frag} {mg : Str → Option Value} {h : Heap} {k : Nat} {sp : Sp} {fa : Addr} (KX : K.In h) (G : h.Ns mainGlobals mg) (hfa : mg "law" = some (.ref fa))
    (H : ∀ base : Heap, K.In base → base.Ns mainGlobals mg → Has P w K mg base k "law" ["script"] sp) :
    ∃ fd : FuncData, (∀ (s : Shared) (v : Value), BindsTo s fd ⟨[v], []⟩ [("script", v)]) ∧ ∀ base : Heap, K.In base → base.Ns mainGlobals mg → FnOk P w K mg base CX0 k fa fd ["script"] sp := by
  obtain ⟨f, fd, F, hb, hk, hm, oc, od, osl, hl⟩ := H h KX G
  rw [hfa] at hm
  cases hm
  refine ⟨fd, fun s v => .of_eq (hb [v] rfl), fun base kb nb => ?_⟩
  obtain ⟨f', fd', F', _, _, hm', oc', od', osl', hl'⟩ := H base kb nb
  rw [hfa] at hm'
  cases hm'
  rw [hl] at hl'
  cases hl'
  exact F'

theorem bits_weight {ns : List Int} : ∀ z ∈ ns, Builtin.Int.intBits z ≤ PySem.W.WData.weightAll (ns.map PySem.W.WData.int) := by
  induction ns with
  | nil => intro z hz; cases hz
  | cons a r ih =>
    intro z hz
    rw [List.map_cons]
    show _ ≤ PySem.W.WData.weight (.int a) + 1 + PySem.W.WData.weightAll (r.map PySem.W.WData.int)
    rcases List.mem_cons.mp hz with e | hz
    · subst e
      have : PySem.W.WData.weight (.int z) = Builtin.Int.intBits z := rfl
      omega
    · have := ih z hz
      omega
open PySem.W in
theorem law_walk {l : PySem.W.OpenLaw} {k : Nat} {q : Program} {loose : List Str} {XP : (Str → Option Value) → Heap → Prop} {YP : World → Heap → Prop} {d : DefRec} {K : Params → PySem.W.Frag} {sp : PySem.W.Frag → Sp}
    (hn : l.most = some 63) (hdf : d.params.defaults = []) (hr : Room k callerA)
    (hY : ∀ (w : World) (h : Heap), YP w h → (K w.params).In h)
    (F : ∀ (w : World) (mg : Str → Option Value) (fa : Addr) (h : Heap), (K w.params).In h → h.Ns mainGlobals mg → mg d.name = some (.ref fa) →
      ∃ fd : FuncData, (∀ (s : Shared) (u : Value), BindsTo s fd ⟨[u], []⟩ [("script", u)]) ∧
        ∀ base : Heap, (K w.params).In base → base.Ns mainGlobals mg → FnOk l.prog w (K w.params) mg base CX0 k fa fd ["script"] (sp (K w.params)))
    (hsp : ∀ (K : PySem.W.Frag) (H : Hp) (a : Addr) (ns : List Int), ns.length ≤ 63 → (∀ z ∈ ns, Builtin.Int.intBits z ≤ 2 ^ 20) → SqL K H a (ns.map V.int) → sp K [.ref a] H (fun v _ => v = .bl true) fun _ _ _ => False) :
    PySem.W.WalkO q loose XP YP l.row.toRowW d [] (fun f vs => PySem.call f vs) := by
  intro w s₀ s₁ mg mb G Y fa o pm cd doc dV kV ho hd hcd hD hmg hg args vals as hpre hlay hrd hwl hlo
  obtain rfl : dV = .none := Dflts.none hD hdf
  obtain rfl : kV = .none := Dflts.noKw hD
  obtain ⟨a, vs, ns, rfl, rfl, hobj, hints, hlen⟩ := Att.script_of hn hpre hwl
  have hbits : ∀ z ∈ ns, Builtin.Int.intBits z ≤ 2 ^ 20 := fun z hz => by
    have h1 : WData.layable (WData.list (ns.map WData.int)) = true := by
      have := hlay
      simp only [WData.layableAll, List.all_cons, List.all_nil, Bool.and_true] at this
      exact this
    unfold WData.layable at h1
    have h2 : WData.weight (WData.list (ns.map WData.int)) ≤ 2 ^ 20 := by
      have := (Bool.and_eq_true_iff.mp h1).2
      exact of_decide_eq_true this
    exact Nat.le_trans (bits_weight z hz) h2
  have KX := hY w _ Y
  obtain ⟨fd, hb, hF⟩ := F w mg fa _ KX G.T.g hmg
  refine enter_call (codeAny_mono (law_call (CX := CX0) (sp := sp (K w.params)) KX G.T.g G.T.b G.T.builtins G.T.nolimit hg hobj hints (Nat.le_trans hlen (by decide)) hr hF hb (fun H _ hS => hsp _ H a ns hlen hbits hS) fun _ _ _ z => z) fun r s' hq => ?_)
  obtain ⟨rfl, h2, h3, h4⟩ := hq
  exact ⟨.inl ⟨.bool true, .bool true, [], rfl, fun _ => rfl, .bool true, Att.post_true l _, fun _ => ⟨List.Pairwise.nil, fun _ hm => (nomatch hm)⟩⟩, h2, h3, h4⟩

theorem op_mulA {X : Cx} : OpR X (binaryOp .Mult) (rI IntMulOk fun i j => .int (i * j)) := opI fun _ _ _ _ _ _ _ hc q => mul_int q hc
def CDivA (_ j : Int) : Prop := 0 < j ∧ j.natAbs.log2 < 9000
theorem op_fdivA {X : Cx} : OpR X (binaryOp .FloorDiv) (rI CDivA fun i j => .int (i / j)) := opI fun i j _ _ _ _ _ hc q => by
  refine floordiv_int (by have := hc.1; omega) ?_ (.inl (PyProof.noPylong_of_log2 hc.2))
  rw [Int.fdiv_eq_ediv_of_nonneg i (Int.le_of_lt hc.1)]
  exact q
theorem mok {i j : Int} (m n : Nat) (h1 : i.natAbs < 2 ^ m) (h2 : j.natAbs < 2 ^ n) (h : m + n ≤ 134217728) : IntMulOk i j := IntMulOk.of_le (intBits_le_iff.mpr h1) (intBits_le_iff.mpr h2) h
theorem mokS {i j : Int} (h1 : -(2 ^ 64) < j) (h2 : j < 2 ^ 64) : IntMulOk i j := .of_right (intBits_le_64 h1 h2)
theorem divA {i j : Int} (n : Nat) (h0 : 0 < j) (h : j.natAbs < 2 ^ n) (hn : n ≤ 9000) : CDivA i j := ⟨h0, Nat.lt_of_lt_of_le ((Nat.log2_lt (by omega)).mpr h) hn⟩

def rIsI (K : PySem.W.Frag) : List V → Hp → VK → Prop := fun xs H Q => ∃ x T t b, xs = [x, .ty T] ∧ TyOf K H x t ∧ PySem.W.kitOne K t (.type T) = some b ∧ Q (.bl b) H
theorem call_isI {X : Cx} : CallR X (.builtin "isinstance") (rIsI X.K) := by
  intro pins s σ H xs us Q I r h
  obtain ⟨x, T, t, b, rfl, ty, e, q⟩ := h
  obtain ⟨u, c, rfl, r1, r2⟩ := Vals.two r
  obtain rfl : c = Value.type T := r2
  exact isinst_ok I r1 ty e fun tk => ⟨.bl b, H, I.tok tk, rfl, q⟩

section
variable {D : Ends} {σ : St} {H : Hp} {Q : VK}
theorem tSeq_ap {t u : TS} : tSeq t u D σ H = t { D with nx := u D } σ H := rfl
theorem tIfS_ap {c : TT} {t u : TS} : tIfS c t u D σ H = c σ H fun b H1 => if b = true then t D σ H1 else u D σ H1 := rfl
theorem tAsg_ap {te : TE} {g : TG} : tAsg te g D σ H = te σ H fun x H1 => g x σ H1 D.nx := rfl
theorem gName_ap {i : Nat} {v : V} {R : St → Hp → Prop} : gName i v σ H R = R (σ.set i (some v)) H := rfl
theorem tRet_ap {te : TE} : tRet te D σ H = te σ H D.rt := rfl
theorem tRetN_ap : tRetN D σ H = D.rt .non H := rfl
theorem tNext_ap : tNext D σ H = D.nx σ H := rfl
theorem tBreak_ap : tBreak D σ H = D.bk σ H := rfl
theorem tCont_ap : tCont D σ H = D.ct σ H := rfl
theorem tDrop_ap {te : TE} : tDrop te D σ H = te σ H fun _ H1 => D.nx σ H1 := rfl
theorem tC_ap {v : V} : tC v σ H Q = Q v H := rfl
theorem tVar_ap {i : Nat} {v : V} (h : σ[i]? = some (some v)) : tVar i σ H Q = Q v H := propext ⟨fun ⟨u, e, q⟩ => by rw [h] at e; cases e; exact q, fun q => ⟨v, h, q⟩⟩
theorem tVar_0 {v : V} {l : St} : tVar 0 (some v :: l) H Q = Q v H := tVar_ap rfl
theorem tVar_s {i : Nat} {o : Option V} {l : St} : tVar (i + 1) (o :: l) H Q = tVar i l H Q := rfl
theorem tOp_ap {r : R2} {ta tb : TE} : tOp r ta tb σ H Q = ta σ H fun x H1 => tb σ H1 fun y H2 => r x y H2 Q := rfl
theorem tUn_ap {r : V → Hp → VK → Prop} {ta : TE} : tUn r ta σ H Q = ta σ H fun x H1 => r x H1 Q := rfl
theorem rI0_ap {g : Int → Int → V} {i j : Int} : rI0 g (.int i) (.int j) H Q = Q (g i j) H := propext ⟨fun ⟨a, b, e1, e2, q⟩ => by cases e1; cases e2; exact q, fun q => ⟨i, j, rfl, rfl, q⟩⟩
theorem rI_ap {C : Int → Int → Prop} {g : Int → Int → V} {i j : Int} : rI C g (.int i) (.int j) H Q = (C i j ∧ Q (g i j) H) := propext ⟨fun ⟨a, b, e1, e2, q⟩ => by cases e1; cases e2; exact q, fun q => ⟨i, j, rfl, rfl, q⟩⟩
theorem rU_ap {g : Int → V} {i : Int} : rU g (.int i) H Q = Q (g i) H := propext ⟨fun ⟨a, e1, q⟩ => by cases e1; exact q, fun q => ⟨i, rfl, q⟩⟩
theorem rEq_int {i j : Int} : rEq (.int i) (.int j) H Q = Q (.bl (decide (i = j))) H := propext ⟨fun ⟨_, q⟩ => by simpa using q, fun q => ⟨rfl, by simpa using q⟩⟩
theorem rNe_int {i j : Int} : rNe (.int i) (.int j) H Q = Q (.bl (!decide (i = j))) H := propext ⟨fun ⟨_, q⟩ => by simpa using q, fun q => ⟨rfl, by simpa using q⟩⟩
theorem tTest_ap {t : TE} {R : Bool → Hp → Prop} : tTest t σ H R = t σ H fun x H' => ∃ k, x = .bl k ∧ R k H' := rfl
theorem ex_bl {b : Bool} {R : Bool → Prop} : (∃ k, V.bl b = .bl k ∧ R k) = R b := propext ⟨fun ⟨k, e, q⟩ => by cases e; exact q, fun q => ⟨b, rfl, q⟩⟩
theorem ex_ref {a : Addr} {R : Addr → Prop} : (∃ k, V.ref a = .ref k ∧ R k) = R a := propext ⟨fun ⟨k, e, q⟩ => by cases e; exact q, fun q => ⟨a, rfl, q⟩⟩
theorem ex_int {a : Int} {R : Int → Prop} : (∃ k, V.int a = .int k ∧ R k) = R a := propext ⟨fun ⟨k, e, q⟩ => by cases e; exact q, fun q => ⟨a, rfl, q⟩⟩
theorem tAnd_ap {t u : TT} {R : Bool → Hp → Prop} : tAnd t u σ H R = t σ H fun c H1 => if c = true then u σ H1 R else R false H1 := rfl
theorem tOr_ap {t u : TT} {R : Bool → Hp → Prop} : tOr t u σ H R = t σ H fun c H1 => if c = true then R true H1 else u σ H1 R := rfl
theorem tNot_ap {t : TT} {R : Bool → Hp → Prop} : tNot t σ H R = t σ H fun c H1 => R (!c) H1 := rfl
theorem tAndV_ap {ta tb : TE} : tAndV ta tb σ H Q = ta σ H fun x H1 => ∃ c, x = .bl c ∧ if c = true then tb σ H1 Q else Q (.bl false) H1 := rfl
theorem tOrV_ap {ta tb : TE} : tOrV ta tb σ H Q = ta σ H fun x H1 => ∃ c, x = .bl c ∧ if c = true then Q (.bl true) H1 else tb σ H1 Q := rfl
theorem tNotV_ap {ta : TE} : tNotV ta σ H Q = ta σ H fun x H1 => ∃ c, x = .bl c ∧ Q (.bl (!c)) H1 := rfl
theorem tIf_ap {t : TT} {ta tb : TE} : tIf t ta tb σ H Q = t σ H fun c H1 => if c = true then ta σ H1 Q else tb σ H1 Q := rfl
theorem tNil_ap {R : List V → Hp → Prop} : tNil σ H R = R [] H := rfl
theorem tCons_ap {ta : TE} {tr : TA} {R : List V → Hp → Prop} : tCons ta tr σ H R = ta σ H fun x H1 => tr σ H1 fun xs H2 => R (x :: xs) H2 := rfl
theorem tTup_ap {t : TA} : tTup t σ H Q = t σ H fun xs H1 => xs.length ≤ sizeLine ∧ ∀ p, H1 p = none → Q (.ref p) (upd H1 p (.tup xs)) := rfl
theorem tLst_ap {t : TA} : tLst t σ H Q = t σ H fun xs H1 => xs.length ≤ sizeLine ∧ ∀ p, H1 p = none → Q (.ref p) (upd H1 p (.lst xs)) := rfl
theorem tCall_ap {sp : Sp} {dvs : List V} {E : XK} {t : TA} : tCall sp dvs E t σ H Q = t σ H fun vs H1 => sp (vs ++ dvs) H1 Q E := rfl
theorem tCB_ap {r : List V → Hp → VK → Prop} {t : TA} : tCB r t σ H Q = t σ H fun vs H1 => r vs H1 Q := rfl
theorem tChain_ap {r r' : R2} {ta tb tc : TE} : tChain r r' ta tb tc σ H Q = ta σ H fun x H1 => tb σ H1 fun y H2 => r x y H2 fun z H3 => ∃ k, z = .bl k ∧ (if k = true then tc σ H3 fun w' H4 => r' y w' H4 Q else Q (.bl false) H3) := rfl
theorem tPar_ap {i j : Nat} {ta : TA} : tPar i j ta D σ H = ta σ H fun vs H1 => ∃ v w, vs = [v, w] ∧ D.nx ((σ.set i (some v)).set j (some w)) H1 := rfl
theorem ex_two {v w : V} {R : V → V → Prop} : (∃ a b, [v, w] = [a, b] ∧ R a b) = R v w := propext ⟨fun ⟨a, b, e, q⟩ => by cases e; exact q, fun q => ⟨v, w, rfl, q⟩⟩
theorem tAug_ap {i : Nat} {te : TE} {ti : TIp} : tAug i te ti D σ H = tVar i σ H fun x _ => te σ H fun y H1 => ti x y H1 fun z H2 => D.nx (σ.set i (some z)) H2 := rfl
theorem ipI_ap {f : Int → Int → Int} {i j : Int} : ipI f (.int i) (.int j) H Q = Q (.int (f i j)) H := propext ⟨fun ⟨a, b, e1, e2, q⟩ => by cases e1; cases e2; exact q, fun q => ⟨i, j, rfl, rfl, q⟩⟩
theorem tSl_ap {r : V → Option Int → Option Int → Hp → VK → Prop} {te : TE} {tl th : TO} : tSl r te tl th σ H Q = te σ H fun x H1 => tl σ H1 fun l H2 => th σ H2 fun u H3 => r x l u H3 Q := rfl
theorem tNoPart_ap {R : Option Int → Hp → Prop} : tNoPart σ H R = R none H := rfl
theorem tPart_ap {t : TE} {R : Option Int → Hp → Prop} : tPart t σ H R = t σ H fun x H1 => ∃ i, x = .int i ∧ R (some i) H1 := rfl
theorem tBM_ap {K : PySem.W.Frag} {T : String} {r : V → List V → Hp → VK → Prop} {to : TE} {t : TA} : tBM K T r to t σ H Q = to σ H fun x H1 => tyV K T x H1 ∧ t σ H1 fun xs H2 => r x xs H2 Q := rfl
theorem tTrue_ap {R : Bool → Hp → Prop} : tTrue σ H R = R true H := rfl
theorem gSub_ap {to ti : TE} {t : TSet} {v : V} {R : St → Hp → Prop} : gSub to ti t v σ H R = to σ H fun o H1 => ti σ H1 fun i H2 => t o i v H2 fun H3 => R σ H3 := rfl
theorem ite_and {c : Prop} [Decidable c] {A B : Prop} : (if c then A else B) = ((c → A) ∧ (¬ c → B)) := by
  by_cases h : c
  · simp [h]
  · simp [h]
def oV : Option Int → V
  | some i => .int i
  | none => .non
end
end L2
namespace L2
open PySem PySem.Spec PyProof.Rows
theorem cxOf_K {CX : CXT} {P : Program} {w : World} {K : PySem.W.Frag} {mg : Str → Option Value} {base : Heap} {N : List Str} {qual : Str} {scope : Scope} {f : Addr} {cd : Value} {A : Around} {outer : List Env} {s : Shared} {H : Hp} {E : XK} : (cxOf CX P w K mg base N qual scope f cd A outer s H E).K = K := rfl
theorem cxComp_K {X : Cx} {N : List Str} {scope : Scope} {cl : List (Str × Addr)} {s : Shared} {H : Hp} {fp : List Addr} : (cxComp X N scope cl s H fp).K = X.K := rfl
section
variable {D : Ends} {σ : St} {H : Hp} {Q : VK}
def ForW (J : It) (g : TG) (tb : TS) (D : Ends) (σ : St) (H : Hp) : Prop := ∃ W : Nat → Nat → St → Hp → Prop, (∃ m, W 0 m σ H) ∧ ∀ i m σ H, W i m σ H →
  (J.stop i H ∧ D.nx σ H) ∨ (J.go i H ∧ ∃ N : St → Hp → Prop, (∀ σ' H', N σ' H' → ∃ m', m' < m ∧ W (i + 1) m' σ' H') ∧ ∀ x H', J.yld i H x H' → g x σ H' fun σ2 H2 => tb { D with nx := N, ct := N, bk := D.nx } σ2 H2)
theorem tFor_ap {wi : TI} {g : TG} {tb : TS} : tFor wi g tb D σ H = wi σ H fun J H1 => ForW J g tb D σ H1 := rfl
theorem forW_list {K : PySem.W.Frag} {a : Addr} {xs : List V} {g : TG} {tb : TS} (Pv : Nat → St → Hp → Prop) (h0 : Pv 0 σ H) (hl : ∀ i σ H, i ≤ xs.length → Pv i σ H → SqL K H a xs)
    (hs : ∀ i x σ H, xs[i]? = some x → Pv i σ H → g x σ H fun σ2 H2 => tb { D with nx := Pv (i + 1), ct := Pv (i + 1), bk := D.nx } σ2 H2) (hd : ∀ σ H, Pv xs.length σ H → D.nx σ H) : ForW (Itl K a) g tb D σ H := for_list Pv h0 hl hs hd
theorem iRng1_ap {ta : TA} {R : It → Hp → Prop} : iRng1 ta σ H R = ta σ H fun vs H1 => ∃ j : Int, vs = [.int j] ∧ -(2 ^ 62) ≤ j ∧ j < 2 ^ 62 ∧ R (Itr 0 j.toNat) H1 := rfl
theorem iRng2_ap {ta : TA} {R : It → Hp → Prop} : iRng2 ta σ H R = ta σ H fun vs H1 => ∃ i j : Int, vs = [.int i, .int j] ∧ (-(2 ^ 62) ≤ i ∧ i < 2 ^ 62 ∧ -(2 ^ 62) ≤ j ∧ j < 2 ^ 62) ∧ R (Itr i (j - i).toNat) H1 := rfl
theorem iList_ap {K : PySem.W.Frag} {tl : TE} {R : It → Hp → Prop} : iList K tl σ H R = tl σ H fun x H1 => ∃ a, x = .ref a ∧ (∃ xs, SqL K H1 a xs) ∧ R (Itl K a) H1 := rfl
theorem iTup_ap {K : PySem.W.Frag} {tl : TE} {R : It → Hp → Prop} : iTup K tl σ H R = tl σ H fun x H1 => ∃ a, x = .ref a ∧ (∃ xs, SqT K H1 a xs) ∧ R (Itt K a) H1 := rfl
def CompW (J : It) (g : TG) (tt : TT) (te : TE) (own : List Str) (fr : List Nat) (σ : St) (H1 : Hp) (Q : VK) : Prop := ∀ D, H1 D = none → ∃ W : Nat → Nat → St → Hp → Prop, (∃ m, W 0 m (st0 own fr σ) (upd H1 D (.lst []))) ∧ ∀ i m σc H, W i m σc H →
  (J.stop i H ∧ Q (.ref D) H) ∨ (J.go i H ∧ ∃ N : St → Hp → Prop, (∀ σ' H', N σ' H' → ∃ m', m' < m ∧ W (i + 1) m' σ' H') ∧ ∀ x H', J.yld i H x H' → g x σc H' fun σ2 H2 => tt σ2 H2 fun b H3 =>
    if b = true then te σ2 H3 fun y H4 => ∃ ys, H4 D = some (.lst ys) ∧ ys.length < sizeLine ∧ N σ2 (upd H4 D (.lst (ys ++ [y]))) else N σ2 H3)
theorem tComp_ap {wi : TI} {g : TG} {tt : TT} {te : TE} {own : List Str} {fr : List Nat} : tComp wi g tt te own fr σ H Q = wi σ H fun J H1 => CompW J g tt te own fr σ H1 Q := rfl
def CompN (Sv : St → Prop) (Pv : Addr → Nat → List V → Hp → Prop) (D : Addr) (i : Nat) (σ : St) (H : Hp) : Prop := Sv σ ∧ ∃ ys, H D = some (.lst ys) ∧ ys.length ≤ i ∧ Pv D i ys H
def CompP (Sv : St → Prop) (Pv : Addr → Nat → List V → Hp → Prop) (D : Addr) (i : Nat) (σ2 : St) (y : V) (H4 : Hp) : Prop := ∃ ys, H4 D = some (.lst ys) ∧ ys.length < sizeLine ∧ CompN Sv Pv D (i + 1) σ2 (upd H4 D (.lst (ys ++ [y])))
theorem CompP.mk {Sv : St → Prop} {Pv : Addr → Nat → List V → Hp → Prop} {D : Addr} {i : Nat} {σ2 : St} {y : V} {H4 : Hp} {ys : List V} (h : H4 D = some (.lst ys)) (hl : ys.length ≤ i) (hi : i < sizeLine) (hS : Sv σ2) (hP : Pv D (i + 1) (ys ++ [y]) (upd H4 D (.lst (ys ++ [y])))) :
    CompP Sv Pv D i σ2 y H4 := ⟨ys, h, Nat.lt_of_le_of_lt hl hi, hS, _, upd_same, by simp; omega, hP⟩
theorem compW_list {K : PySem.W.Frag} {a : Addr} {xs : List V} {g : TG} {tt : TT} {te : TE} {own : List Str} {fr : List Nat} (Sv : St → Prop) (Pv : Addr → Nat → List V → Hp → Prop) (hS : Sv (st0 own fr σ))
    (h0 : ∀ D, H D = none → Pv D 0 [] (upd H D (.lst []))) (hl : ∀ D i ys H', H' D = some (.lst ys) → Pv D i ys H' → SqL K H' a xs)
    (hs : ∀ D i x ys σ H', xs[i]? = some x → i < xs.length → Sv σ → H' D = some (.lst ys) → ys.length ≤ i → Pv D i ys H' → g x σ H' fun σ2 H2 => tt σ2 H2 fun b H3 => if b = true then te σ2 H3 fun y H4 => CompP Sv Pv D i σ2 y H4 else CompN Sv Pv D (i + 1) σ2 H3)
    (hd : ∀ D ys H', H' D = some (.lst ys) → Pv D xs.length ys H' → Q (.ref D) H') : CompW (Itl K a) g tt te own fr σ H Q := by
  intro D hD
  refine ⟨fun i m σ H => m = xs.length - i ∧ i ≤ xs.length ∧ CompN Sv Pv D i σ H, ⟨_, rfl, Nat.zero_le _, hS, [], upd_same, Nat.le_refl _, h0 D hD⟩, ?_⟩
  rintro i m σ1 H1 ⟨rfl, hi, hs1, ys, hy, hy2, p⟩
  have q := hl D i ys H1 hy p
  by_cases hlt : i < xs.length
  · refine .inr ⟨⟨xs, xs[i], q, by simp [hlt]⟩, CompN Sv Pv D (i + 1), fun σ' H' p' => ⟨xs.length - (i + 1), by omega, rfl, hlt, p'⟩, fun x H' y => ?_⟩
    obtain ⟨e, y⟩ := y
    subst e
    exact hs D i x ys σ1 _ (y xs q) hlt hs1 hy hy2 p
  · have e : i = xs.length := by omega
    subst e
    exact .inl ⟨⟨xs, q, Nat.le_refl _⟩, hd D ys H1 hy p⟩
abbrev IL (zs : List Int) : HO := .lst (zs.map V.int)
theorem rIxL_mk {K : PySem.W.Frag} {p : Addr} {xs : List V} {i : Int} {v : V} (h : SqL K H p xs) (e : atI xs i = some v) (q : Q v H) : rIxL K (.ref p) (.int i) H Q := ⟨p, xs, i, v, rfl, rfl, h, e, q⟩
theorem atI_getD {zs : List Int} {i : Int} (h0 : 0 ≤ i) (h1 : i < zs.length) : atI (zs.map V.int) i = some (.int (zs.getD i.toNat 0)) := by
  have hk : i.toNat < zs.length := by omega
  have ek : i = ((i.toNat : Nat) : Int) := by omega
  have q : atI (zs.map V.int) ((i.toNat : Nat) : Int) = some (.int (zs.getD i.toNat 0)) := atI_nat (by rw [List.getElem?_map, List.getElem?_eq_getElem hk, List.getD_eq_getElem?_getD, List.getElem?_eq_getElem hk]; rfl)
  rw [← ek] at q
  exact q
theorem Same.write {H H' : Hp} (g : Same H H') {p : Addr} (n : H p = none) (o : HO) : Same H (upd H' p o) := fun b u e => by rw [upd_ne (ne_of_none e n)]; exact g b u e
theorem gCons_ap {t : TG} {u : TGs} {v : V} {r : List V} {R : St → Hp → Prop} : gCons t u (v :: r) σ H R = t v σ H fun σ' H' => u r σ' H' R := propext ⟨fun ⟨a, b, e, q⟩ => by cases e; exact q, fun q => ⟨v, r, rfl, q⟩⟩
theorem gNil_ap {R : St → Hp → Prop} : gNil [] σ H R = R σ H := propext ⟨fun ⟨_, q⟩ => q, fun q => ⟨rfl, q⟩⟩
theorem tB_ap {t : TE} {R : Bool → Hp → Prop} : tB t σ H R = t σ H fun x H1 => ∃ c, x = .bl c ∧ R c H1 := rfl
theorem same_new {H : Hp} {p : Addr} (h : H p = none) (o : HO) : Same H (upd H p o) := fun b u q => by rw [upd_ne (ne_of_none q h)]; exact q
end
end L2
namespace L2
open PySem PySem.Spec PyProof.Rows
def Itv (K : PySem.W.Frag) (a : Addr) (n : Nat) : It :=
  ⟨fun i H => i < n ∧ ∃ xs, SqL K H a xs ∧ xs.length = n, fun i H x H' => H' = H ∧ ∀ xs, SqL K H a xs → xs[n - 1 - i]? = some x, fun i _ => i = n⟩
theorem turn_rev {P : Program} {w : World} {K : PySem.W.Frag} {tg : Expr} (a it : Addr) (n : Nat) : Turn P w K tg (Itv K a n) [it] it (fun i h => h.IsRevIter it a ((n : Int) - 1 - (i : Int))) where
  mem := by simp
  obj := fun i h st b hb => by
    have e : b = it := by simpa using hb
    subst e
    obtain ⟨o, e, c, d⟩ := st
    exact ⟨o, e, fun v z => by rw [d] at z; cases z⟩
  keep := fun i h h' st k => st.at fun o e => k it (by simp) o e
  item := by
    intro X hP hw hK hc i pins s σ H E I hf st hg
    subst hP hw hK
    obtain ⟨hi, xs, hq, hn⟩ := hg
    obtain ⟨its, rv, p, hz⟩ := I.list hq
    have hx : xs[n - 1 - i]? = some (xs[n - 1 - i]'(by omega)) := List.getElem?_eq_getElem (by omega)
    obtain ⟨u, hu, ru⟩ := rv.get hx
    obtain ⟨f0, f1, f2, f3, f4, f5⟩ := hf it (by simp)
    have e1 : (n : Int) - 1 - (i : Int) = ((n - 1 - i : Nat) : Int) := by omega
    rw [e1] at st
    refine wpAny_pyNext_rev_item st p.isList (x := u) (by simpa using hu) fun h' st' sb => ?_
    have e2 : ((n - 1 - i : Nat) : Int) - 1 = (n : Int) - 1 - ((i + 1 : Nat) : Int) := by omega
    rw [e2] at st'
    have I1 : Inv X pins σ H { s with heap := h' } := I.turned (t' := s.toks) (fun b o hb e => (sb.2 b hb).trans e) f0 f1 f3 f4 f5
    obtain ⟨o, e, c, d⟩ := id st'
    exact ⟨u, rfl, go_of (s := { s with heap := h' }) e c d (by decide) ⟨_, H, I1, ru, ⟨rfl, fun ys hy => by rw [I.list_inj hy hq]; exact hx⟩, st', fun b hb => (hf b hb).1⟩⟩
  done := by
    intro X hP hw hK hc i pins s σ H E I hf st hg
    subst hP hw hK
    obtain ⟨f0, f1, f2, f3, f4, f5⟩ := hf it (by simp)
    have e1 : (n : Int) - 1 - (i : Int) = -1 := by have : i = n := hg; omega
    rw [e1] at st
    exact wpAny_pyNext_rev_end (I.ok.hd hc) st fun h' eb => ⟨rfl, I.turned (t' := s.toks) (fun b o hb e => eb b o hb e) f0 f1 f3 f4 f5⟩
  self := fun _ _ _ _ _ st h => wpAny_pyIter_revIter st h
def iRev (K : PySem.W.Frag) (ta : TE) : TI := fun σ H R => ta σ H fun x H1 => ∃ a xs, x = .ref a ∧ SqL K H1 a xs ∧ R (Itv K a xs.length) H1
section
variable {X : Cx} {tg : Expr}
theorem pi_rev {l : Expr} {tl : TE} {p pos : Pos} (hg : Gl X "reversed") (hm : X.mg "reversed" = none) (hl : PE X l tl) (hs : starEach [l] X.env = [(false, eval l X.env)] := by rfl) : PI X tg (.Call (.Name "reversed" p) [l] [] pos) (iRev X.K tl) := by
  intro pins s σ H R I h
  refine Call_ (ld_blt I hg hm PyProof.Rows.boot_reversed (PyProof.Rows.callWith_type1 ?_ hs rfl))
  refine thn ((pa_cons hl pa_nil hs) pos pins s σ H (fun vs H1 => ∃ (a : Addr) (xs : List V), vs = [V.ref a] ∧ SqL X.K H1 a xs ∧ R (Itv X.K a xs.length) H1) I ?_) fun us s1 ⟨vs, H1, I1, r, a, xs, e, hq, q⟩ => ?_
  · have e : (fun (x : V) (H1 : Hp) => ∃ (a : Addr) (xs : List V), [x] = [V.ref a] ∧ SqL X.K H1 a xs ∧ R (Itv X.K a xs.length) H1) = fun x H1 => ∃ (a : Addr) (xs : List V), x = .ref a ∧ SqL X.K H1 a xs ∧ R (Itv X.K a xs.length) H1 := by
      funext x H1
      simp only [List.cons.injEq, and_true]
    show tl σ H fun x H1 => ∃ (a : Addr) (xs : List V), [x] = [V.ref a] ∧ SqL X.K H1 a xs ∧ R (Itv X.K a xs.length) H1
    rw [e]
    exact h
  subst e
  obtain ⟨u, rfl, r1⟩ := Vals.one r
  cases r1
  obtain ⟨its, rv, pl, hz⟩ := I1.list hq
  refine call_reversed_list pl.isList ?_
  have I2 : Inv X pins σ H1 { s1 with heap := s1.heap.push (revObj a ((its.toArray.size : Int) - 1)) } := I1.kept (t' := s1.toks) fun b o e => Heap.get?_push_of_some _ e
  have hl2 := rv.length
  have st : (s1.heap.push (revObj a ((its.toArray.size : Int) - 1))).IsRevIter s1.heap.objs.size a ((xs.length : Int) - 1 - ((0 : Nat) : Int)) := ⟨_, Heap.get?_push_size _ rfl, rfl, by
    show Data.fields #[.ref a, rawInt ((its.toArray.size : Int) - 1)] = _
    rw [List.size_toArray, ← hl2]; simp⟩
  refine wpAny_pyIter_revIter (s := { s1 with heap := s1.heap.push (revObj a ((its.toArray.size : Int) - 1)) }) st ?_
  refine ⟨s1.heap.objs.size, [s1.heap.objs.size], _, _, H1, rfl, I2, turn_rev a _ xs.length, st, fun b hb => ?_, q⟩
  have e : b = s1.heap.objs.size := by simpa using hb
  subst e
  exact I1.fpOk (Nat.le_refl _) (I1.hok.fresh (Nat.le_refl _))
end
theorem forW_rev {K : PySem.W.Frag} {a : Addr} {xs : List V} {g : TG} {tb : TS} {D : Ends} {σ : St} {H : Hp} (Pv : Nat → St → Hp → Prop) (h0 : Pv 0 σ H) (hl : ∀ i σ H, i ≤ xs.length → Pv i σ H → SqL K H a xs)
    (hs : ∀ i x σ H, i < xs.length → xs[xs.length - 1 - i]? = some x → Pv i σ H → g x σ H fun σ2 H2 => tb { D with nx := Pv (i + 1), ct := Pv (i + 1), bk := D.nx } σ2 H2) (hd : ∀ σ H, Pv xs.length σ H → D.nx σ H) : ForW (Itv K a xs.length) g tb D σ H := by
  refine ⟨fun i m σ H => m = xs.length - i ∧ i ≤ xs.length ∧ Pv i σ H, ⟨xs.length, by simp, Nat.zero_le _, h0⟩, ?_⟩
  rintro i m σ H ⟨rfl, hi, p⟩
  have q := hl i σ H hi p
  by_cases hlt : i < xs.length
  · refine .inr ⟨⟨hlt, xs, q, rfl⟩, Pv (i + 1), fun σ' H' p' => ⟨xs.length - (i + 1), by omega, rfl, hlt, p'⟩, fun x H' y => ?_⟩
    obtain ⟨e, y⟩ := y
    subst e
    exact hs i x σ _ hlt (y xs q) p
  · have e : i = xs.length := by omega
    subst e
    exact .inl ⟨rfl, hd σ H p⟩
theorem iRev_ap {K : PySem.W.Frag} {tl : TE} {σ : St} {H : Hp} {R : It → Hp → Prop} : iRev K tl σ H R = tl σ H fun x H1 => ∃ a xs, x = .ref a ∧ SqL K H1 a xs ∧ R (Itv K a xs.length) H1 := rfl
end L2
namespace L2
open PySem PySem.Spec PyProof.Rows
def tCut (t : TS) : TS := fun D σ H => ∃ M : St → Hp → Prop, t { D with nx := M } σ H ∧ ∀ σ' H', M σ' H' → D.nx σ' H'
theorem ps_cut {X : Cx} {st : Stmt} {t : TS} (h : PS X st t) : PS X st (tCut t) := by
  intro pins s σ H D I hw
  obtain ⟨M, h1, h2⟩ := hw
  refine thn (h pins s σ H _ I h1) fun f s1 q => ?_
  cases f with
  | next => obtain ⟨σ', H', I', q⟩ := q; exact ⟨σ', H', I', h2 σ' H' q⟩
  | ret v => exact q
  | brk => exact q
  | cont => exact q
section
variable {X : Cx}
end
theorem isI_ii {K : PySem.W.Frag} {H : Hp} {Q : VK} {d : Int} : rIsI K [.int d, .ty "int"] H Q = Q (.bl true) H := propext ⟨fun ⟨x, T, t, b, e, ty, k, q⟩ => by
    cases e
    cases ty
    have : PySem.W.kitOne K (.type "int") (.type "int") = some true := rfl
    rw [this] at k
    cases k
    exact q, fun q => ⟨_, _, _, true, rfl, .int d, rfl, q⟩⟩
theorem isI_ib {K : PySem.W.Frag} {H : Hp} {Q : VK} {d : Int} : rIsI K [.int d, .ty "bool"] H Q = Q (.bl false) H := propext ⟨fun ⟨x, T, t, b, e, ty, k, q⟩ => by
    cases e
    cases ty
    have : PySem.W.kitOne K (.type "int") (.type "bool") = some false := rfl
    rw [this] at k
    cases k
    exact q, fun q => ⟨_, _, _, false, rfl, .int d, rfl, q⟩⟩
theorem isI_ni {K : PySem.W.Frag} {H : Hp} {Q : VK} : rIsI K [.non, .ty "int"] H Q = Q (.bl false) H := propext ⟨fun ⟨x, T, t, b, e, ty, k, q⟩ => by
    cases e
    cases ty
    have : PySem.W.kitOne K (.type "NoneType") (.type "int") = some false := rfl
    rw [this] at k
    cases k
    exact q, fun q => ⟨_, _, _, false, rfl, .non, rfl, q⟩⟩
theorem isI_bb {K : PySem.W.Frag} {H : Hp} {Q : VK} {d : Bool} : rIsI K [.bl d, .ty "bool"] H Q = Q (.bl true) H := propext ⟨fun ⟨x, T, t, b, e, ty, k, q⟩ => by
    cases e
    cases ty
    have : PySem.W.kitOne K (.type "bool") (.type "bool") = some true := rfl
    rw [this] at k
    cases k
    exact q, fun q => ⟨_, _, _, true, rfl, .bl d, rfl, q⟩⟩
def cutI (ns : List Int) (lo hi : Option Int) : List Int := (ns.drop (HT.sIx ns.length 0 lo)).take (HT.sIx ns.length ns.length hi - HT.sIx ns.length 0 lo)
theorem cutV_map (ns : List Int) (lo hi : Option Int) : cutV (ns.map V.int) lo hi = (cutI ns lo hi).map V.int := by
  unfold cutV cutI
  rw [List.length_map, List.map_take, List.map_drop]
end L2
namespace L2
open PySem PySem.Spec PyProof.Rows
section
variable {prog : Program} {w : World} {A : Around} {E : Value → Shared → Prop} {s : Shared}
end
def tListRev (K : PySem.W.Frag) (tl : TE) : TE := fun σ H Q => tl σ H fun x H1 => ∃ a xs, x = .ref a ∧ SqL K H1 a xs ∧ ∀ d, H1 d = none → Q (.ref d) (upd H1 d (.lst xs.reverse))
section
variable {X : Cx}
end
theorem tListRev_ap {K : PySem.W.Frag} {tl : TE} {σ : St} {H : Hp} {Q : VK} : tListRev K tl σ H Q = tl σ H fun x H1 => ∃ a xs, x = .ref a ∧ SqL K H1 a xs ∧ ∀ d, H1 d = none → Q (.ref d) (upd H1 d (.lst xs.reverse)) := rfl
end L2
namespace L2
open PySem PySem.Spec PyProof.Rows
mutual
inductive DD (K : PySem.W.Frag) (H : Hp) : V → PyData → Prop where
  | non : DD K H .non .none
  | bl (b : Bool) : DD K H (.bl b) (.bool b)
  | int (i : Int) : DD K H (.int i) (.int i)
  | str (x : Str) : DD K H (.str x) (.str x)
  | lst {a : Addr} {xs : List V} {ds : List PyData} : SqL K H a xs → DDs K H xs ds → DD K H (.ref a) (.list ds)
  | tup {a : Addr} {xs : List V} {ds : List PyData} : SqT K H a xs → DDs K H xs ds → DD K H (.ref a) (.tuple ds)
inductive DDs (K : PySem.W.Frag) (H : Hp) : List V → List PyData → Prop where
  | nil : DDs K H [] []
  | cons {x : V} {xs : List V} {d : PyData} {ds : List PyData} : DD K H x d → DDs K H xs ds → DDs K H (x :: xs) (d :: ds)
end
section
variable {X : Cx} {pins : List (Addr × Obj)} {σ : St} {H : Hp} {s : Shared}
end
theorem Same.seqT {K : PySem.W.Frag} {H H' : Hp} {a : Addr} {xs : List V} (e : Same H H') (h : SqT K H a xs) : SqT K H' a xs := by
  rcases h with (h | ⟨o, h⟩) | h
  · exact .inl (.inl (e _ _ h))
  · exact .inl (.inr ⟨o, e _ _ h⟩)
  · exact .inr h
mutual
theorem DD.mono {K : PySem.W.Frag} {H H' : Hp} (g : Same H H') : ∀ {v : V} {d : PyData}, DD K H v d → DD K H' v d
  | _, _, .non => .non
  | _, _, .bl b => .bl b
  | _, _, .int i => .int i
  | _, _, .str x => .str x
  | _, _, .lst h hs => .lst (g.seq h) (DDs.mono g hs)
  | _, _, .tup h hs => .tup (Same.seqT g h) (DDs.mono g hs)
theorem DDs.mono {K : PySem.W.Frag} {H H' : Hp} (g : Same H H') : ∀ {vs : List V} {ds : List PyData}, DDs K H vs ds → DDs K H' vs ds
  | _, _, .nil => .nil
  | _, _, .cons h hs => .cons (DD.mono g h) (DDs.mono g hs)
end
section
variable {X : Cx}
end
end L2
namespace L2
open PySem PySem.Spec PyProof.Rows
theorem mind_args (a v : Value) : argsOk "min" ⟨[a], [(Str.ofString "default", v)]⟩ := by unfold argsOk; kernel_rfl
section
variable {prog : Program} {w : World} {B : Around} {it : Addr} {fp wr : List Addr} {GG : Array GenState → Array GenState → Prop} {n : Nat} {PV : Nat → Value → Prop} {SV : Nat → Shared → Prop} {RR : Result → Shared → Prop}
theorem mind_turn {dv : Value} (WS : WalksS prog w B.in1 it fp wr GG n PV SV) (bt : Nat → Nat → Bool) (hcm : CmpOf prog w B.in1 .Lt PV bt) (Z : Addr) (hZ : Z ∉ fp) :
    ∀ (k j : Nat) (s : Shared) (top : Value) (c : Nat), n - (j + 1) = k → j + 1 ≤ n → SV (j + 1) s → PV (argBest bt j) top →
    s.heap.get? Z = some { cls := .type "list", dict := none, data := .seq #[top, top] c, slots := #[] } →
    (∀ v s', PV (argBest bt (n - 1)) v → Moved (Z :: wr) GG s s' → RR (.ok (.ret v)) s') → codeAny (model prog w) B (.builtin "min.loop" ⟨[.ref it, .none, .ref Z], [(Str.ofString "default", dv)]⟩) RR s := by
  have zw : Z ∉ wr := fun z => hZ (WS.sub _ z)
  have sub : ∀ b ∈ wr, b ∈ Z :: wr := fun b z => List.mem_cons_of_mem _ z
  have nm : (toString "min" ++ toString ".loop" : String) = "min.loop" := by decide
  have nz : ∀ {b : Addr}, b ∉ Z :: wr → Z ≠ b := fun z e => z (by rw [e]; exact List.mem_cons_self)
  intro k
  induction k with
  | zero =>
    intro j s top c hk hj sv pt hz fin
    have jn : j + 1 = n := by omega
    refine codeAny_builtin PySem.F.entry_min_loop ?_
    rw [Around.under_plainId PySem.F.plain_min_loop _]
    show wpAny (model prog w) B.in1 (seqItems? (.ref Z) >>= _) _ _ s
    refine wpAny_bind (wpAny_seqItems hz rfl ?_)
    show wpAny (model prog w) B.in1 (tryCatch (pyNext (.ref it)) _ >>= _) _ _ s
    refine wpAny_bind (wpAny_tryCatch (WS.done s _ _ (jn ▸ sv) fun s' mv => ?_))
    have hz' := mv.heap Z _ zw hz
    show wpAny (model prog w) B.in1 (updateSeq Z (fun _ => #[]) >>= _) _ _ _
    refine wpAny_bind ?_
    refine wpAny_updateSeq hz' rfl (wpAny_bind (wpAny_letGo (wpAny_pure ?_)))
    refine fin top _ (by rw [← jn]; exact pt) ?_
    exact (mv.mono sub).then_heap (tk := s'.toks) (Nat.le_refl _) fun b o z e => (Heap.get?_update_other _ _ (nz z)).trans e
  | succ k ih =>
    intro j s top c hk hj sv pt hz fin
    have jn : j + 1 < n := by omega
    refine codeAny_builtin PySem.F.entry_min_loop ?_
    rw [Around.under_plainId PySem.F.plain_min_loop _]
    show wpAny (model prog w) B.in1 (seqItems? (.ref Z) >>= _) _ _ s
    refine wpAny_bind (wpAny_seqItems hz rfl ?_)
    show wpAny (model prog w) B.in1 (tryCatch (pyNext (.ref it)) _ >>= _) _ _ s
    refine wpAny_bind (wpAny_tryCatch (WS.item (j + 1) s _ _ jn sv fun v s' pv sv' mv => ?_))
    have hz' := mv.heap Z _ zw hz
    show wpAny (model prog w) B.in1 (tryCatch (holding [v, v] (richCompare .Lt v top >>= _)) _ >>= _) _ _ _
    refine wpAny_bind (wpAny_tryCatch (wpAny_holding (wpAny_bind (hcm (j + 1) (argBest bt j) v top _ _ _ pv pt ?_))))
    refine wpAny_bind (wpAny_holding (wpAny_truthy_bool ?_))
    refine wpAny_bind (wpAny_letGo (wpAny_pure ?_))
    cases eb : bt (j + 1) (argBest bt j) with
    | true =>
      simp only [if_true]
      refine wpAny_bind ?_
      refine wpAny_updateSeq hz' rfl (wpAny_bind (wpAny_letGo ?_))
      rw [nm]
      refine wpAny_pure ⟨plainId_quiet PySem.F.plain_min_loop _, ih (j + 1) _ v _ (by omega) jn ?_ (by simp only [argBest, eb, if_true]; exact pv) (Heap.get?_update_self _ hz' rfl) fun v2 s2 p2 m2 => ?_⟩
      · exact WS.frame _ s' _ s'.toks sv' (Nat.le_refl _) fun b z o e => (Heap.get?_update_other _ _ (fun q : Z = b => hZ (by rw [q]; exact z))).trans e
      · refine fin v2 s2 p2 (Moved.trans WS.gtrans ?_ m2)
        exact (mv.mono sub).then_heap (Nat.le_refl _) fun b o z e => (Heap.get?_update_other _ _ (nz z)).trans e
    | false =>
      simp only [Bool.false_eq_true, if_false]
      refine wpAny_bind (wpAny_letGo ?_)
      rw [nm]
      refine wpAny_pure ⟨plainId_quiet PySem.F.plain_min_loop _, ih (j + 1) _ top c (by omega) jn sv' (by simp only [argBest, eb, Bool.false_eq_true, if_false]; exact pt) hz' fun v2 s2 p2 m2 => ?_⟩
      exact fin v2 s2 p2 (Moved.trans WS.gtrans (mv.mono sub) m2)
theorem mind_first {dv : Value} (WS : WalksS prog w B.in1 it fp wr GG n PV SV) (bt : Nat → Nat → Bool) (hcm : CmpOf prog w B.in1 .Lt PV bt) (Z : Addr) (hZ : Z ∉ fp) {s : Shared} {c : Nat} (sv : SV 0 s)
    (hz : s.heap.get? Z = some { cls := .type "list", dict := none, data := .seq #[] c, slots := #[] })
    (none : n = 0 → ∀ s', Moved (Z :: wr) GG s s' → RR (.ok (.ret dv)) s') (fin : 0 < n → ∀ v s', PV (argBest bt (n - 1)) v → Moved (Z :: wr) GG s s' → RR (.ok (.ret v)) s') :
    codeAny (model prog w) B (.builtin "min.loop" ⟨[.ref it, .none, .ref Z], [(Str.ofString "default", dv)]⟩) RR s := by
  have zw : Z ∉ wr := fun z => hZ (WS.sub _ z)
  have sub : ∀ b ∈ wr, b ∈ Z :: wr := fun b z => List.mem_cons_of_mem _ z
  have nm : (toString "min" ++ toString ".loop" : String) = "min.loop" := by decide
  have nz : ∀ {b : Addr}, b ∉ Z :: wr → Z ≠ b := fun z e => z (by rw [e]; exact List.mem_cons_self)
  refine codeAny_builtin PySem.F.entry_min_loop ?_
  rw [Around.under_plainId PySem.F.plain_min_loop _]
  show wpAny (model prog w) B.in1 (seqItems? (.ref Z) >>= _) _ _ s
  refine wpAny_bind (wpAny_seqItems hz rfl ?_)
  show wpAny (model prog w) B.in1 (tryCatch (pyNext (.ref it)) _ >>= _) _ _ s
  rcases Nat.eq_zero_or_pos n with z0 | zp
  · refine wpAny_bind (wpAny_tryCatch (WS.done s _ _ (by rw [z0]; exact sv) fun s' mv => ?_))
    refine wpAny_bind (wpAny_rule ?_)
    exact wpAny_pure (none z0 s' (mv.mono sub))
  · refine wpAny_bind (wpAny_tryCatch (WS.item 0 s _ _ zp sv fun v s' pv sv' mv => ?_))
    have hz' := mv.heap Z _ zw hz
    show wpAny (model prog w) B.in1 (updateSeq Z (fun _ => #[v, v]) >>= _) _ _ _
    refine wpAny_bind ?_
    refine wpAny_updateSeq hz' rfl ?_
    rw [nm]
    refine wpAny_pure ⟨plainId_quiet PySem.F.plain_min_loop _, mind_turn WS bt hcm Z hZ _ 0 _ v _ rfl zp ?_ pv (Heap.get?_update_self _ hz' rfl) fun v2 s2 p2 m2 => ?_⟩
    · exact WS.frame _ s' _ s'.toks sv' (Nat.le_refl _) fun b z o e => (Heap.get?_update_other _ _ (fun q : Z = b => hZ (by rw [q]; exact z))).trans e
    · refine fin zp v2 s2 p2 (Moved.trans WS.gtrans ?_ m2)
      exact (mv.mono sub).then_heap (Nat.le_refl _) fun b o z e => (Heap.get?_update_other _ _ (nz z)).trans e
theorem mind_list {s : Shared} {E : Value → Shared → Prop} {Q : Value → Shared → Prop} {l : Addr} {xs : Array (Int × Tok)} {dv : Value} (hh : B.handled = none) (hl : s.heap.IsList l (intItems xs))
    (h0 : xs.size = 0 → ∀ h' tk, (∀ b o, s.heap.get? b = some o → h'.get? b = some o) → Q dv { s with heap := h', toks := tk })
    (h1 : 0 < xs.size → ∀ v h' tk, (intItems xs)[argBest (fun i j => decide (numAt xs i < numAt xs j)) (xs.size - 1)]? = some v → (∀ b o, s.heap.get? b = some o → h'.get? b = some o) → Q v { s with heap := h', toks := tk }) :
    wpAny (model prog w) B (call (.builtin "min") [.ref l] [(Str.ofString "default", dv)]) Q E s := by
  have nm : (toString "min" ++ toString ".loop" : String) = "min.loop" := by decide
  refine PyProof.Rows.kmb_tree PySem.F.kind_min PySem.F.plain_min PySem.F.entry_min (mind_args _ _) ?_
  show wpAny (model prog w) B.in1 (Builtin.Builtins.bindParams "min" ["key", "default"] 0 ⟨[], [(Str.ofString "default", dv)]⟩ >>= _) _ _ s
  refine wpAny_bind (wpAny_of_eq (show Builtin.Builtins.bindParams "min" ["key", "default"] 0 ⟨[], [(Str.ofString "default", dv)]⟩ = pure [none, some dv] from rfl) ?_)
  refine wpAny_bind (wpAny_pure ?_)
  refine wpAny_bind (iter_intList hl fun s2 e st hfp ne => ?_)
  refine wpAny_bind (wpAny_newObj_type ?_)
  have WS := (Walks.list (prog := prog) (w := w) (A := B.in1) hh s.heap.objs.size l ne (intItems xs)).toS
  have hZ : s2.heap.objs.size ∉ [s.heap.objs.size, l] := fun z => Nat.lt_irrefl _ (hfp _ z)
  have sz : (intItems xs).size = xs.size := by simp [intItems]
  rw [nm]
  subst e
  have keep : ∀ {s3 : Shared} {s4 : Shared} {wr : List Addr} {GG : Array GenState → Array GenState → Prop}, Moved wr GG s3 s4 → True := fun _ => trivial
  refine wpAny_pure ⟨plainId_quiet PySem.F.plain_min_loop _, mind_first WS _ (CmpOf.ints_lt (numAt xs) fun _ _ => intItems_at) _ hZ (c := 0) (WS.frame 0 _ _ _ st (Nat.le_refl _) fun b _ o e => Heap.get?_push_of_some _ e) (Heap.get?_push_size _ rfl) (fun z s' mv => ?_) (fun z v s' pv mv => ?_)⟩
  · rw [Moved.eq_with mv]
    refine h0 (by omega) s'.heap s'.toks fun b o e => ?_
    have lt := Heap.lt_size e
    refine mv.heap b o (fun q => ?_) (Heap.get?_push_of_some _ (Heap.get?_push_of_some _ e))
    rcases List.mem_cons.mp q with q | q
    · subst q
      exact absurd lt (by show ¬ (s.heap.push _).objs.size < s.heap.objs.size; rw [Heap.size_push]; exact Nat.not_lt.mpr (Nat.le_succ _))
    · exact absurd lt (by rw [List.mem_singleton.mp q]; exact Nat.lt_irrefl _)
  · rw [Moved.eq_with mv]
    rw [sz] at pv z
    refine h1 z v s'.heap s'.toks pv fun b o e => ?_
    have lt := Heap.lt_size e
    refine mv.heap b o (fun q => ?_) (Heap.get?_push_of_some _ (Heap.get?_push_of_some _ e))
    rcases List.mem_cons.mp q with q | q
    · subst q
      exact absurd lt (by show ¬ (s.heap.push _).objs.size < s.heap.objs.size; rw [Heap.size_push]; exact Nat.not_lt.mpr (Nat.le_succ _))
    · exact absurd lt (by rw [List.mem_singleton.mp q]; exact Nat.lt_irrefl _)
end
def tMinD (K : PySem.W.Frag) (tl td : TE) : TE := fun σ H Q => tl σ H fun x H1 => td σ H1 fun d H2 => ∃ (a : Addr) (ns : List Int), x = .ref a ∧ SqL K H2 a (ns.map V.int) ∧ (ns = [] → Q d H2) ∧ ∀ M, M ∈ ns → (∀ z ∈ ns, M ≤ z) → Q (.int M) H2
section
variable {X : Cx}
theorem pe_minD {l e : Expr} {tl td : TE} {p pos kp : Pos} (hc : X.calm = true) (hg : Gl X "min") (hm : X.mg "min" = none) (hl : PE X l tl) (he : PE X e td) (hs : starEach [l] X.env = [(false, eval l X.env)] := by rfl) :
    PE X (.Call (.Name "min" p) [l] [⟨some (Str.ofString "default"), e, kp⟩] pos) (tMinD X.K tl td) := by
  intro pins s σ H Q I h
  refine wpAny_Call_Name_kw (ld_blt I hg hm (u := .builtin "min") (by decide +kernel) ?_)
  refine PyProof.Rows.callWith_kw (env := X.env) (e := l) (rest := []) (kws := [⟨some (Str.ofString "default"), e, kp⟩]) ?_ (he := by rw [hs]; rfl) (hplain := by rw [hs]; rfl)
  refine thn ((pa_cons hl pa_nil hs) pos pins s σ H (fun vs H1 => ∃ x, vs = [x] ∧ td σ H1 fun d H2 => ∃ (a : Addr) (ns : List Int), x = .ref a ∧ SqL X.K H2 a (ns.map V.int) ∧ (ns = [] → Q d H2) ∧ ∀ M, M ∈ ns → (∀ z ∈ ns, M ≤ z) → Q (.int M) H2) I ?_) fun us s1 ⟨vs, H1, I1, r, x, e1, q⟩ => ?_
  · show tl σ H fun x H1 => ∃ y, [x] = [y] ∧ _
    have e : (fun (x : V) (H1 : Hp) => ∃ y, [x] = [y] ∧ td σ H1 fun d H2 => ∃ (a : Addr) (ns : List Int), y = .ref a ∧ SqL X.K H2 a (ns.map V.int) ∧ (ns = [] → Q d H2) ∧ ∀ M, M ∈ ns → (∀ z ∈ ns, M ≤ z) → Q (.int M) H2) =
        fun x H1 => td σ H1 fun d H2 => ∃ (a : Addr) (ns : List Int), x = .ref a ∧ SqL X.K H2 a (ns.map V.int) ∧ (ns = [] → Q d H2) ∧ ∀ M, M ∈ ns → (∀ z ∈ ns, M ≤ z) → Q (.int M) H2 := by
      funext x H1
      refine propext ⟨fun ⟨y, e, q⟩ => ?_, fun q => ⟨x, rfl, q⟩⟩
      cases e
      exact q
    rw [e]
    exact h
  subst e1
  obtain ⟨u, rfl, r1⟩ := Vals.one r
  refine thn ((pk_cons he pk_nil) pos pins s1 σ H1 (fun ws H2 => ∃ d, ws = [d] ∧ ∃ (a : Addr) (ns : List Int), x = .ref a ∧ SqL X.K H2 a (ns.map V.int) ∧ (ns = [] → Q d H2) ∧ ∀ M, M ∈ ns → (∀ z ∈ ns, M ≤ z) → Q (.int M) H2) I1 ?_) fun ws s2 ⟨zs, H2, I2, rz, d, ed, a, ns, ea, hq, q0, q1⟩ => ?_
  · show td σ H1 fun d H2 => ∃ d', [d] = [d'] ∧ _
    have e : (fun (d : V) (H2 : Hp) => ∃ d', [d] = [d'] ∧ ∃ (a : Addr) (ns : List Int), x = .ref a ∧ SqL X.K H2 a (ns.map V.int) ∧ (ns = [] → Q d' H2) ∧ ∀ M, M ∈ ns → (∀ z ∈ ns, M ≤ z) → Q (.int M) H2) =
        fun d H2 => ∃ (a : Addr) (ns : List Int), x = .ref a ∧ SqL X.K H2 a (ns.map V.int) ∧ (ns = [] → Q d H2) ∧ ∀ M, M ∈ ns → (∀ z ∈ ns, M ≤ z) → Q (.int M) H2 := by
      funext x H1
      refine propext ⟨fun ⟨y, e, q⟩ => ?_, fun q => ⟨x, rfl, q⟩⟩
      cases e
      exact q
    rw [e]
    exact q
  subst ed ea
  obtain ⟨dv, rfl, rd⟩ := Vals.one rz
  cases r1
  obtain ⟨its, rv, pl, hz⟩ := I2.list hq
  have hi : IntsAre its ns := intsAre_of rv
  obtain ⟨xs, ex⟩ := hi.allInts.items
  have hns : ns = xs.toList.map (·.1) := by rw [← hi.numsOf, ← nums_intItems, ← ex]
  have hsz : xs.size = ns.length := by rw [hns, List.length_map, Array.length_toList]
  have hl := pl.isList
  rw [ex] at hl
  show wpAny (model X.prog X.w) X.A (call (.builtin "min") [.ref a] [(Str.ofString "default", dv)]) _ _ _
  refine mind_list (I.ok.hd hc) hl (fun z h' tk k => ?_) (fun z v h' tk hv k => ?_)
  · exact ⟨d, H2, I2.kept k, rd, q0 (List.eq_nil_of_length_eq_zero (by omega))⟩
  · obtain ⟨t, rfl⟩ := intItems_at hv
    obtain ⟨b1, b2⟩ := argBest_lt (numAt xs) (xs.size - 1)
    refine ⟨.int _, H2, I2.kept k, ⟨t, rfl⟩, q1 _ ?_ fun y hy => ?_⟩
    · rw [hns, numAt_eq]; exact getD_mem (by rw [List.length_map, Array.length_toList]; omega)
    · rw [hns] at hy
      obtain ⟨j, hj, rfl⟩ := mem_getD hy
      rw [List.length_map, Array.length_toList] at hj
      rw [← numAt_eq]
      exact b2 j (by omega)
end
theorem tMinD_ap {K : PySem.W.Frag} {tl td : TE} {σ : St} {H : Hp} {Q : VK} : tMinD K tl td σ H Q = tl σ H fun x H1 => td σ H1 fun d H2 => ∃ (a : Addr) (ns : List Int), x = .ref a ∧ SqL K H2 a (ns.map V.int) ∧ (ns = [] → Q d H2) ∧ ∀ M, M ∈ ns → (∀ z ∈ ns, M ≤ z) → Q (.int M) H2 := rfl

section
variable {prog : Program} {w : World} {B : Around} {it : Addr} {fp wr : List Addr} {GG : Array GenState → Array GenState → Prop} {n : Nat} {PV : Nat → Value → Prop} {SV : Nat → Shared → Prop} {RR : Result → Shared → Prop}
end
def tMaxD (K : PySem.W.Frag) (tl td : TE) : TE := fun σ H Q => tl σ H fun x H1 => td σ H1 fun d H2 => ∃ (a : Addr) (ns : List Int), x = .ref a ∧ SqL K H2 a (ns.map V.int) ∧ (ns = [] → Q d H2) ∧ ∀ M, M ∈ ns → (∀ z ∈ ns, z ≤ M) → Q (.int M) H2
section
variable {X : Cx}
end
theorem tMaxD_ap {K : PySem.W.Frag} {tl td : TE} {σ : St} {H : Hp} {Q : VK} : tMaxD K tl td σ H Q = tl σ H fun x H1 => td σ H1 fun d H2 => ∃ (a : Addr) (ns : List Int), x = .ref a ∧ SqL K H2 a (ns.map V.int) ∧ (ns = [] → Q d H2) ∧ ∀ M, M ∈ ns → (∀ z ∈ ns, z ≤ M) → Q (.int M) H2 := rfl
end L2
namespace L2
open PySem PySem.Spec PyProof.Rows
def CapOk (X : Cx) (scope : Scope) : List Str → List Nat → List (Str × Addr) → Prop
  | [], [], [] => True
  | y :: ys, j :: js, (n, a) :: r => n = y ∧ X.N[j]? = some y ∧ X.env.scope.names.lookup y = some .cell ∧ X.env.cells.lookup y = some a ∧ scope.names.lookup y = some .free ∧ CapOk X scope ys js r
  | _, _, _ => False
theorem CapOk.inn {X : Cx} {scope : Scope} : ∀ {ys : List Str} {js : List Nat} {cl : List (Str × Addr)}, CapOk X scope ys js cl → ∀ y c, cl.lookup y = some c → X.env.cells.lookup y = some c
  | [], [], [], _, y, c, e => nomatch e
  | y :: ys, j :: js, (n, a) :: r, ⟨hn, _, _, h, _, t⟩, z, c, e => by
    subst hn
    rw [List.lookup_cons] at e
    cases q : z == n with
    | true =>
      rw [q] at e
      have : z = n := by simpa using q
      subst this
      exact h.trans e
    | false =>
      rw [q] at e
      exact CapOk.inn t z c e
theorem CapOk.mem {X : Cx} {scope : Scope} : ∀ {ys : List Str} {js : List Nat} {cl : List (Str × Addr)}, CapOk X scope ys js cl → ∀ y ∈ ys, ∃ c, cl.lookup y = some c
  | [], [], [], _, y, h => nomatch h
  | y :: ys, j :: js, (n, a) :: r, ⟨hn, _, _, _, _, t⟩, z, e => by
    subst hn
    rw [List.lookup_cons]
    cases q : z == n with
    | true => exact ⟨_, rfl⟩
    | false =>
      rcases List.mem_cons.mp e with e | e
      · subst e; simp at q
      · exact CapOk.mem t z e
theorem CapOk.len {X : Cx} {scope : Scope} : ∀ {ys : List Str} {js : List Nat} {cl : List (Str × Addr)}, CapOk X scope ys js cl → ys.length = js.length
  | [], [], [], _ => rfl
  | _ :: _, _ :: _, (_, _) :: _, ⟨_, _, _, _, _, t⟩ => congrArg (· + 1) (CapOk.len t)
theorem CapOk.at {X : Cx} {scope : Scope} : ∀ {ys : List Str} {js : List Nat} {cl : List (Str × Addr)}, CapOk X scope ys js cl → ∀ (k : Nat) (y : Str), ys[k]? = some y →
    ∃ j, js[k]? = some j ∧ X.N[j]? = some y ∧ X.env.scope.names.lookup y = some .cell ∧ scope.names.lookup y = some .free
  | [], [], [], _, k, y, e => by simp at e
  | y :: ys, j :: js, (n, a) :: r, ⟨hn, h1, h2, _, h3, t⟩, k, z, e => by
    subst hn
    cases k with
    | zero => cases e; exact ⟨j, rfl, h1, h2, h3⟩
    | succ k => exact CapOk.at t k z e
theorem lookup_mem {α : Type} : ∀ {l : List (Str × α)} {y : Str} {k : α}, l.lookup y = some k → (y, k) ∈ l
  | [], _, _, e => nomatch e
  | (n, q) :: r, y, k, e => by
    rw [List.lookup_cons] at e
    cases hy : y == n with
    | true =>
      rw [hy] at e
      have : y = n := by simpa using hy
      subst this
      cases e
      exact .head _
    | false =>
      rw [hy] at e
      exact .tail _ (lookup_mem e)
theorem relabel_free {env : Env} : ∀ {names : List (Str × NameKind)} {x : Str}, names.lookup x = some .free →
    (names.map fun (n, k) => if (k == NameKind.free && env.scope.kind == .function && env.kindOf n == some .cell) then (n, NameKind.cell) else (n, k)).lookup x = some .cell ∨
    (names.map fun (n, k) => if (k == NameKind.free && env.scope.kind == .function && env.kindOf n == some .cell) then (n, NameKind.cell) else (n, k)).lookup x = some .free
  | [], _, h => nomatch h
  | (n, k) :: r, x, h => by
    rw [List.lookup_cons] at h
    rw [List.map_cons]
    cases hy : x == n with
    | true =>
      rw [hy] at h
      cases h
      dsimp only
      split
      · left; rw [List.lookup_cons, hy]
      · right; rw [List.lookup_cons, hy]
    | false =>
      rw [hy] at h
      have ih := relabel_free (env := env) h
      dsimp only
      split
      · rw [List.lookup_cons, hy]; exact ih
      · rw [List.lookup_cons, hy]; exact ih
theorem CompSc.capt {X : Cx} {own capt : List Str} {scope : Scope} {cl : List (Str × Addr)} {fr : List Nat} (clo : closureFor scope X.env = pure cl) (ok : CapOk X scope capt fr cl) (h1 : ∀ z ∈ scope.names, z.2 = .free → z.1 ∈ capt)
    (h2 : ∀ y ∈ scope.names, y.2 ≠ .cell) (kind : scope.kind = .function) (names : ∀ y ∈ scope.names, y.2 = .local → scope.names.lookup y.1 = some .local) : CompSc X own capt scope cl fr where
  clos := clo
  nocell := h2
  kind := kind
  names := names
  inn := ok.inn
  has := fun y e => by
    refine ok.mem y ?_
    have key : ∃ k, (y, k) ∈ (relabel scope X.env).names ∧ (k = .cell ∨ k = .free) := by
      rcases e with e | e
      · exact ⟨_, lookup_mem e, .inl rfl⟩
      · exact ⟨_, lookup_mem e, .inr rfl⟩
    obtain ⟨k, hm, hk⟩ := key
    unfold relabel at hm
    obtain ⟨⟨n, k0⟩, h3, h4⟩ := List.mem_map.mp hm
    have h5 : n = y ∧ k0 = .free := by
      dsimp only at h4
      split at h4
      · rename_i c
        cases h4
        simp only [Bool.and_eq_true, beq_iff_eq] at c
        exact ⟨rfl, c.1.1⟩
      · cases h4
        rcases hk with rfl | rfl
        · exact absurd rfl (h2 _ h3)
        · exact ⟨rfl, rfl⟩
    obtain ⟨rfl, rfl⟩ := h5
    exact h1 _ h3 rfl
  cap := fun k y e => by
    obtain ⟨j, e1, e2, e3, e4⟩ := ok.at k y e
    obtain ⟨c, hc⟩ := ok.mem y (List.mem_of_getElem? e)
    exact ⟨j, c, e1, e2, e3, hc, relabel_free e4⟩
  len := ok.len
end L2
namespace SM
def gcdI (a b : Int) : Int := (Int.gcd a b : Int)
theorem gcdI_zero {a : Int} (h : 0 ≤ a) : gcdI a 0 = a := by
  unfold gcdI; rw [Int.gcd_zero_right]; omega
theorem gcdI_comm (a b : Int) : gcdI a b = gcdI b a := by unfold gcdI; rw [Int.gcd_comm]
theorem gcdI_step (a b : Int) : gcdI b (a % b) = gcdI a b := by
  unfold gcdI
  have e : a = b * (a / b) + a % b := (Int.mul_ediv_add_emod a b).symm
  have : Int.gcd a b = Int.gcd (a % b) b := by
    conv => lhs; rw [e]
    rw [Int.gcd_mul_left_add_left]
  rw [this, Int.gcd_comm]
theorem gcdI_dvd_left (a b : Int) : gcdI a b ∣ a := Int.gcd_dvd_left ..
theorem gcdI_dvd_right (a b : Int) : gcdI a b ∣ b := Int.gcd_dvd_right ..
theorem gcdI_pos {a b : Int} (h : a ≠ 0 ∨ b ≠ 0) : 0 < gcdI a b := by
  unfold gcdI
  rcases h with h | h
  · have := Int.gcd_pos_of_ne_zero_left b h; omega
  · have := Int.gcd_pos_of_ne_zero_right a h; omega
theorem gcdI_le_left {a : Int} (b : Int) (h : 0 < a) : gcdI a b ≤ a := Int.gcd_le_left b h
theorem bezout (a b : Int) (ha : 0 ≤ a) (hb : 0 ≤ b) : ∃ x y, gcdI a b = a * x + b * y := by
  by_cases h : b = 0
  · subst h; exact ⟨1, 0, by rw [gcdI_zero ha]; omega⟩
  · have m1 := Int.emod_nonneg a h
    have m2 := Int.emod_lt_of_pos a (show 0 < b by omega)
    obtain ⟨x, y, e⟩ := bezout b (a % b) hb m1
    refine ⟨y, x - (a / b) * y, ?_⟩
    rw [← gcdI_step, e]
    have q := Int.mul_ediv_add_emod a b
    have : a * y = b * (a / b) * y + a % b * y := by rw [← Int.add_mul, q]
    rw [Int.mul_sub, ← Int.mul_assoc]
    omega
termination_by b.toNat
decreasing_by omega
def lcmI (a b : Int) : Int := a * (b / gcdI a b)
theorem lcmI_eq {a b : Int} (ha : 1 ≤ a) (hb : 1 ≤ b) : lcmI a b = (Int.lcm a b : Int) := by
  have g := gcdI_pos (a := a) (b := b) (by omega)
  have d := gcdI_dvd_right a b
  have e : gcdI a b * (Int.lcm a b : Int) = a * b := by
    have := Int.gcd_mul_lcm a b
    have h2 : ((Int.gcd a b * Int.lcm a b : Nat) : Int) = ((a.natAbs * b.natAbs : Nat) : Int) := by rw [this]
    rw [Int.natCast_mul, Int.natCast_mul] at h2
    have h3 : ((a.natAbs : Nat) : Int) = a := by omega
    have h4 : ((b.natAbs : Nat) : Int) = b := by omega
    rw [h3, h4] at h2
    exact h2
  unfold lcmI
  obtain ⟨k, hk⟩ := d
  have : b / gcdI a b = k := by
    conv => lhs; lhs; rw [hk]
    exact Int.mul_ediv_cancel_left k (by omega)
  rw [this]
  have e2 : gcdI a b * (a * k) = gcdI a b * (Int.lcm a b : Int) := by
    rw [e]; conv => rhs; rw [hk]
    rw [← Int.mul_assoc, ← Int.mul_assoc, Int.mul_comm (gcdI a b) a]
  exact Int.eq_of_mul_eq_mul_left (by omega) e2
theorem lcmI_alt {a b : Int} : (a * b) / gcdI a b = lcmI a b := by
  unfold lcmI
  exact Int.mul_ediv_assoc a (gcdI_dvd_right a b)
theorem lcmI_pos {a b : Int} (ha : 1 ≤ a) (hb : 1 ≤ b) : 1 ≤ lcmI a b := by
  rw [lcmI_eq ha hb]
  have := Int.lcm_pos (m := a) (n := b) (by omega) (by omega)
  omega
theorem lcmI_le {a b : Int} (ha : 1 ≤ a) (hb : 1 ≤ b) : lcmI a b ≤ a * b := by
  unfold lcmI
  have g := gcdI_pos (a := a) (b := b) (by omega)
  have : b / gcdI a b ≤ b := Int.ediv_le_self _ (by omega)
  exact Int.mul_le_mul_of_nonneg_left this (by omega)
theorem dvd_lcmI_left (a b : Int) : a ∣ lcmI a b := ⟨_, rfl⟩
theorem dvd_lcmI_right {a b : Int} (ha : 1 ≤ a) (hb : 1 ≤ b) : b ∣ lcmI a b := by rw [lcmI_eq ha hb]; exact Int.dvd_lcm_right ..
theorem lcmI_dvd {a b k : Int} (ha : 1 ≤ a) (hb : 1 ≤ b) (h1 : a ∣ k) (h2 : b ∣ k) : lcmI a b ∣ k := by rw [lcmI_eq ha hb]; exact Int.coe_lcm_dvd h1 h2
def lcms (xs : List Int) : Int := xs.foldl lcmI 1
theorem foldl_lcm_pos : ∀ (xs : List Int) (a : Int), 1 ≤ a → (∀ x ∈ xs, 1 ≤ x) → 1 ≤ xs.foldl lcmI a
  | [], _, h, _ => h
  | x :: r, a, h, hx => foldl_lcm_pos r (lcmI a x) (lcmI_pos h (hx x (by simp))) fun y hy => hx y (by simp [hy])
theorem foldl_lcm_dvd {k : Int} : ∀ (xs : List Int) (a : Int), 1 ≤ a → (∀ x ∈ xs, 1 ≤ x) → (xs.foldl lcmI a ∣ k ↔ a ∣ k ∧ ∀ x ∈ xs, x ∣ k)
  | [], a, h, _ => by simp
  | x :: r, a, h, hx => by
    have x1 := hx x (by simp)
    rw [List.foldl_cons, foldl_lcm_dvd r (lcmI a x) (lcmI_pos h x1) fun y hy => hx y (by simp [hy])]
    constructor
    · rintro ⟨h1, h2⟩
      refine ⟨Int.dvd_trans (dvd_lcmI_left a x) h1, fun y hy => ?_⟩
      rcases List.mem_cons.mp hy with e | hy
      · rw [e]; exact Int.dvd_trans (dvd_lcmI_right h x1) h1
      · exact h2 y hy
    · rintro ⟨h1, h2⟩
      exact ⟨lcmI_dvd h x1 h1 (h2 x (by simp)), fun y hy => h2 y (by simp [hy])⟩
theorem lcms_pos {xs : List Int} (hx : ∀ x ∈ xs, 1 ≤ x) : 1 ≤ lcms xs := foldl_lcm_pos xs 1 (by omega) hx
theorem lcms_dvd_iff {xs : List Int} {k : Int} (hx : ∀ x ∈ xs, 1 ≤ x) : lcms xs ∣ k ↔ ∀ x ∈ xs, x ∣ k := by
  unfold lcms
  rw [foldl_lcm_dvd xs 1 (by omega) hx]
  exact ⟨fun h => h.2, fun h => ⟨Int.one_dvd k, h⟩⟩
theorem dvd_lcms {xs : List Int} (hx : ∀ x ∈ xs, 1 ≤ x) : ∀ x ∈ xs, x ∣ lcms xs := (lcms_dvd_iff hx).mp (Int.dvd_refl _)
theorem lcms_snoc (xs : List Int) (x : Int) : lcms (xs ++ [x]) = lcmI (lcms xs) x := by unfold lcms; rw [List.foldl_append]; rfl
theorem foldl_lcm_le {B : Int} (hB : 1 ≤ B) : ∀ (xs : List Int) (a : Int), 1 ≤ a → (∀ x ∈ xs, 1 ≤ x ∧ x ≤ B) → xs.foldl lcmI a ≤ a * B ^ xs.length
  | [], a, h, _ => by simp
  | x :: r, a, h, hx => by
    have x1 := hx x (by simp)
    have ih := foldl_lcm_le hB r (lcmI a x) (lcmI_pos h x1.1) fun y hy => hx y (by simp [hy])
    have l := lcmI_le h x1.1
    have p : (0:Int) ≤ B ^ r.length := Int.pow_nonneg (by omega)
    rw [List.foldl_cons, List.length_cons]
    refine Int.le_trans ih ?_
    have m1 : lcmI a x ≤ a * B := Int.le_trans l (Int.mul_le_mul_of_nonneg_left x1.2 (by omega))
    have m2 := Int.mul_le_mul_of_nonneg_right m1 p
    rw [Int.pow_succ, Int.mul_comm (B ^ r.length) B, ← Int.mul_assoc]
    exact m2
theorem lcms_le {B : Int} (hB : 1 ≤ B) {xs : List Int} (hx : ∀ x ∈ xs, 1 ≤ x ∧ x ≤ B) : lcms xs ≤ B ^ xs.length := by
  have := foldl_lcm_le hB xs 1 (by omega) hx
  rw [Int.one_mul] at this
  exact this
end SM
namespace SM

def cdiv (n b : Int) : Int := -((-n) / b)
theorem cdiv_spec {n b : Int} (hb : 0 < b) : n ≤ b * cdiv n b ∧ b * cdiv n b < n + b := by
  unfold cdiv
  have h1 := Int.mul_ediv_add_emod (-n) b
  have h2 := Int.emod_nonneg (-n) (show b ≠ 0 by omega)
  have h3 := Int.emod_lt_of_pos (-n) hb
  rw [Int.mul_neg]
  omega
theorem cdiv_le {n b k : Int} (hb : 0 < b) (h : n ≤ b * k) : cdiv n b ≤ k := by
  have := (cdiv_spec (n := n) hb).2
  by_cases c : cdiv n b ≤ k
  · exact c
  · exfalso
    have h1 : k + 1 ≤ cdiv n b := by omega
    have h2 := Int.mul_le_mul_of_nonneg_left h1 (Int.le_of_lt hb)
    rw [Int.mul_add, Int.mul_one] at h2
    omega
theorem cdiv_nonneg {n b : Int} (hb : 0 < b) (h : 0 ≤ n) : 0 ≤ cdiv n b := by
  have h1 := (cdiv_spec (n := n) hb).1
  by_cases c : 0 ≤ cdiv n b
  · exact c
  · exfalso
    have h2 := Int.mul_le_mul_of_nonneg_left (show cdiv n b ≤ -1 by omega) (Int.le_of_lt hb)
    rw [Int.mul_neg, Int.mul_one] at h2
    omega

def hitF (w a lo n : Int) : Option Int :=
  if h : a ≤ 0 then none
  else if a * cdiv lo a ≤ lo + n - 1 then some (cdiv lo a)
  else (hitF a (w % a) ((-(lo + n - 1)) % a) n).map fun j => cdiv (w * j + lo) a
termination_by a.toNat
decreasing_by
  have h1 := Int.emod_nonneg w (show a ≠ 0 by omega)
  have h2 := Int.emod_lt_of_pos w (show 0 < a by omega)
  omega
def Hits (w a lo n i : Int) : Prop := (a * i - lo) % w < n
def LeastOf (p : Int → Prop) : Option Int → Prop
  | some i => 0 ≤ i ∧ p i ∧ ∀ k, 0 ≤ k → k < i → ¬ p k
  | none => ∀ k, 0 ≤ k → ¬ p k
theorem LeastOf.uniq {p q : Int → Prop} (e : ∀ k, 0 ≤ k → (p k ↔ q k)) {r t : Option Int} (h : LeastOf p r) (g : LeastOf q t) : r = t := by
  cases r with
  | none => cases t with
    | none => rfl
    | some j => exact absurd ((e j g.1).mpr g.2.1) (h j g.1)
  | some i => cases t with
    | none => exact absurd ((e i h.1).mp h.2.1) (g i h.1)
    | some j =>
      have h1 := h.2.2 j g.1
      have h2 := g.2.2 i h.1
      have h3 := (e j g.1).mpr g.2.1
      have h4 := (e i h.1).mp h.2.1
      have : i = j := by
        rcases Int.lt_trichotomy i j with c | c | c
        · exact absurd h4 (h2 c)
        · exact c
        · exact absurd h3 (h1 c)
      rw [this]
theorem mod_lt_iff {x w n : Int} (hw : 0 < w) (hn : n ≤ w) : x % w < n ↔ ∃ j, w * j ≤ x ∧ x < w * j + n := by
  have h1 := Int.mul_ediv_add_emod x w
  have h2 := Int.emod_nonneg x (show w ≠ 0 by omega)
  have h3 := Int.emod_lt_of_pos x hw
  constructor
  · intro h
    exact ⟨x / w, by omega, by omega⟩
  · rintro ⟨j, a, b⟩
    have e : x % w = x - w * j := by
      have z : (x - w * j) % w = x - w * j := Int.emod_eq_of_lt (by omega) (by omega)
      rw [Int.sub_mul_emod_self_left] at z
      exact z
    omega
theorem hitF_none {w a lo n : Int} (h : a ≤ 0) : hitF w a lo n = none := by rw [hitF, dif_pos h]
theorem hitF_here {w a lo n : Int} (h : 0 < a) (h2 : a * cdiv lo a ≤ lo + n - 1) : hitF w a lo n = some (cdiv lo a) := by rw [hitF, dif_neg (by omega), if_pos h2]
theorem hitF_deep {w a lo n : Int} (h : 0 < a) (h2 : ¬ a * cdiv lo a ≤ lo + n - 1) : hitF w a lo n = (hitF a (w % a) ((-(lo + n - 1)) % a) n).map fun j => cdiv (w * j + lo) a := by
  rw [hitF, dif_neg (by omega), if_neg h2]
structure Lvl (w a lo n : Int) : Prop where
  a0 : 0 ≤ a
  aw : a < w
  n1 : 1 ≤ n
  l1 : 1 ≤ lo
  l2 : lo + n ≤ w
theorem Lvl.down {w a lo n : Int} (L : Lvl w a lo n) (h : 0 < a) (h2 : ¬ a * cdiv lo a ≤ lo + n - 1) : Lvl a (w % a) ((-(lo + n - 1)) % a) n := by
  obtain ⟨a0, aw, n1, l1, l2⟩ := L
  have c1 := cdiv_spec (n := lo) h
  have e1 := Int.emod_nonneg w (show a ≠ 0 by omega)
  have e2 := Int.emod_lt_of_pos w h
  have m1 := Int.emod_nonneg (-(lo + n - 1)) (show a ≠ 0 by omega)
  have m2 := Int.emod_lt_of_pos (-(lo + n - 1)) h
  have m3 := Int.mul_ediv_add_emod (-(lo + n - 1)) a
  generalize hq : (-(lo + n - 1)) / a = q at m3
  generalize (-(lo + n - 1)) % a = r at m1 m2 m3 ⊢
  -- a (cdiv - 1) < lo, lo + n ≤ a cdiv
  have k : -q = cdiv lo a ∨ -q ≠ cdiv lo a := by omega
  -- -q * a = lo + n - 1 + r
  have e : a * (-q) = lo + n - 1 + r := by rw [Int.mul_neg]; omega
  have cq : cdiv lo a ≤ -q := cdiv_le h (by omega)
  have cq2 : -q ≤ cdiv lo a := by
    by_cases z : -q ≤ cdiv lo a
    · exact z
    · exfalso
      have := Int.mul_le_mul_of_nonneg_left (show cdiv lo a + 1 ≤ -q by omega) (Int.le_of_lt h)
      rw [Int.mul_add, Int.mul_one] at this
      omega
  have cq3 : -q = cdiv lo a := by omega
  rw [cq3] at e
  exact ⟨e1, e2, n1, by omega, by omega⟩
theorem hits_down {w a lo n : Int} (L : Lvl w a lo n) (h : 0 < a) {j : Int} : Hits a (w % a) ((-(lo + n - 1)) % a) n j ↔ ∃ i, w * j + lo ≤ a * i ∧ a * i ≤ w * j + lo + n - 1 := by
  obtain ⟨a0, aw, n1, l1, l2⟩ := L
  unfold Hits
  have e : (w % a * j - (-(lo + n - 1)) % a) % a = (w * j + (lo + n - 1)) % a := by
    have x1 := Int.mul_ediv_add_emod w a
    have x2 := Int.mul_ediv_add_emod (-(lo + n - 1)) a
    generalize hq1 : w / a = q1 at x1
    generalize hq2 : (-(lo + n - 1)) / a = q2 at x2
    generalize hr1 : w % a = r1 at x1 ⊢
    generalize hr2 : (-(lo + n - 1)) % a = r2 at x2 ⊢
    have : w * j + (lo + n - 1) = (r1 * j - r2) + a * (q1 * j - q2) := by
      rw [← x1, Int.mul_sub, Int.add_mul, Int.mul_assoc]; omega
    rw [this, Int.add_mul_emod_self_left]
  rw [e]
  constructor
  · intro z
    have x1 := Int.mul_ediv_add_emod (w * j + (lo + n - 1)) a
    have x2 := Int.emod_nonneg (w * j + (lo + n - 1)) (show a ≠ 0 by omega)
    exact ⟨(w * j + (lo + n - 1)) / a, by omega, by omega⟩
  · rintro ⟨i, i1, i2⟩
    by_cases na : n ≤ a
    · exact (mod_lt_iff h na).mpr ⟨i, by omega, by omega⟩
    · have := Int.emod_lt_of_pos (w * j + (lo + n - 1)) h
      omega
theorem hits_iff {w a lo n : Int} (L : Lvl w a lo n) {i : Int} (hi : 0 ≤ i) : Hits w a lo n i ↔ ∃ j, 0 ≤ j ∧ w * j + lo ≤ a * i ∧ a * i ≤ w * j + lo + n - 1 := by
  obtain ⟨a0, aw, n1, l1, l2⟩ := L
  unfold Hits
  rw [mod_lt_iff (by omega) (by omega)]
  constructor
  · rintro ⟨j, j1, j2⟩
    refine ⟨j, ?_, by omega, by omega⟩
    have p := Int.mul_nonneg a0 hi
    by_cases c : 0 ≤ j
    · exact c
    · exfalso
      have := Int.mul_le_mul_of_nonneg_left (show j ≤ -1 by omega) (show (0 : Int) ≤ w by omega)
      rw [Int.mul_neg, Int.mul_one] at this
      omega
  · rintro ⟨j, _, j1, j2⟩
    exact ⟨j, by omega, by omega⟩
theorem hitF_least {w a lo n : Int} (L : Lvl w a lo n) : LeastOf (Hits w a lo n) (hitF w a lo n) := by
  by_cases h : 0 < a
  · have c1 := cdiv_spec (n := lo) h
    have c0 := cdiv_nonneg (n := lo) h (by have := L.l1; omega)
    by_cases h2 : a * cdiv lo a ≤ lo + n - 1
    · rw [hitF_here h h2]
      refine ⟨c0, (hits_iff L c0).mpr ⟨0, Int.le_refl 0, by omega, by omega⟩, fun k k0 k1 hk => ?_⟩
      obtain ⟨j, j0, j1, j2⟩ := (hits_iff L k0).mp hk
      have wj := Int.mul_nonneg (show (0:Int) ≤ w by have := L.a0; have := L.aw; omega) j0
      have := cdiv_le (n := lo) h (k := k) (by omega)
      omega
    · rw [hitF_deep h h2]
      have D := L.down h h2
      have ih := hitF_least D
      have w0 : (0:Int) ≤ w := by have := L.a0; have := L.aw; omega
      cases e : hitF a (w % a) ((-(lo + n - 1)) % a) n with
      | none =>
        rw [e] at ih
        show ∀ k, 0 ≤ k → ¬ _
        intro k k0 hk
        obtain ⟨j, j0, j1, j2⟩ := (hits_iff L k0).mp hk
        exact ih j j0 ((hits_down L h).mpr ⟨k, j1, j2⟩)
      | some j =>
        rw [e] at ih
        obtain ⟨j0, jh, jl⟩ := ih
        obtain ⟨i, i1, i2⟩ := (hits_down L h).mp jh
        have wj := Int.mul_nonneg w0 j0
        have s := cdiv_spec (n := w * j + lo) h
        have sle := cdiv_le (n := w * j + lo) h i1
        have sm := Int.mul_le_mul_of_nonneg_left sle (Int.le_of_lt h)
        have s0 := cdiv_nonneg (n := w * j + lo) h (by have := L.l1; omega)
        refine ⟨s0, (hits_iff L s0).mpr ⟨j, j0, s.1, by omega⟩, fun k k0 k1 hk => ?_⟩
        obtain ⟨j', j0', j1', j2'⟩ := (hits_iff L k0).mp hk
        have hj := (hits_down L h).mpr ⟨k, j1', j2'⟩
        have jj : j ≤ j' := by
          by_cases c : j ≤ j'
          · exact c
          · exact absurd hj (jl j' j0' (by omega))
        have := Int.mul_le_mul_of_nonneg_left jj w0
        have := cdiv_le (n := w * j + lo) h (k := k) (by omega)
        have k1' : k < cdiv (w * j + lo) a := k1
        omega
  · rw [hitF_none (by omega)]
    intro k k0 hk
    obtain ⟨j, j0, j1, j2⟩ := (hits_iff L k0).mp hk
    have a00 : a = 0 := by have := L.a0; omega
    have w0 : (0:Int) ≤ w := by have := L.a0; have := L.aw; omega
    have wj := Int.mul_nonneg w0 j0
    have := L.l1
    rw [a00, Int.zero_mul] at j1
    omega
termination_by a.toNat
decreasing_by
  have h1 := Int.emod_nonneg w (show a ≠ 0 by omega)
  have h2 := Int.emod_lt_of_pos w (show 0 < a by omega)
  omega
def firstHit (st sp w n : Int) : Option Int := if st % w < n then some 0 else hitF w (sp % w) ((-st) % w) n
def HitAt (st sp w n i : Int) : Prop := (st + sp * i) % w < n
theorem neg_mod {st w n : Int} (hw : 0 < w) (hn : 1 ≤ n) (h : ¬ st % w < n) : (-st) % w = w - st % w := by
  have h1 := Int.mul_ediv_add_emod st w
  have h3 := Int.emod_lt_of_pos st hw
  have e : -st = (w - st % w) + w * (-(st / w) - 1) := by rw [Int.mul_sub, Int.mul_neg]; omega
  rw [e, Int.add_mul_emod_self_left]
  exact Int.emod_eq_of_lt (by omega) (by omega)
theorem lvl0 {st sp w n : Int} (hw : 0 < w) (hn : 1 ≤ n) (h : ¬ st % w < n) : Lvl w (sp % w) ((-st) % w) n := by
  have h3 := Int.emod_lt_of_pos st hw
  rw [neg_mod hw hn h]
  exact ⟨Int.emod_nonneg _ (by omega), Int.emod_lt_of_pos _ hw, hn, by omega, by omega⟩
theorem hitAt_iff {st sp w n i : Int} : HitAt st sp w n i ↔ Hits w (sp % w) ((-st) % w) n i := by
  unfold HitAt Hits
  have e : (sp % w * i - (-st) % w) % w = (st + sp * i) % w := by
    have x1 := Int.mul_ediv_add_emod sp w
    have x2 := Int.mul_ediv_add_emod (-st) w
    have : st + sp * i = (sp % w * i - (-st) % w) + w * (sp / w * i - (-st) / w) := by
      rw [Int.mul_sub, ← Int.mul_assoc]
      have : sp * i = w * (sp / w) * i + sp % w * i := by rw [← Int.add_mul, x1]
      omega
    rw [this, Int.add_mul_emod_self_left]
  rw [e]
theorem firstHit_least {st sp w n : Int} (hw : 0 < w) (hn : 1 ≤ n) : LeastOf (HitAt st sp w n) (firstHit st sp w n) := by
  unfold firstHit
  by_cases h : st % w < n
  · rw [if_pos h]
    refine ⟨Int.le_refl 0, by unfold HitAt; simpa using h, fun k k0 k1 => by omega⟩
  · rw [if_neg h]
    have := hitF_least (lvl0 (sp := sp) hw hn h)
    cases e : hitF w (sp % w) ((-st) % w) n with
    | none => rw [e] at this; exact fun k k0 hk => this k k0 (hitAt_iff.mp hk)
    | some i =>
      rw [e] at this
      exact ⟨this.1, hitAt_iff.mpr this.2.1, fun k k0 k1 hk => this.2.2 k k0 k1 (hitAt_iff.mp hk)⟩
end SM
namespace SM
theorem hitAt_congr {st st' sp sp' w n i i' : Int} (h : (st + sp * i) % w = (st' + sp' * i') % w) : HitAt st sp w n i ↔ HitAt st' sp' w n i' := by
  unfold HitAt; rw [h]
theorem per_mul {sp w : Int} (hw : 0 < w) : ∃ q, sp * (w / gcdI w (sp % w)) = w * q := by
  have g0 := gcdI_pos (a := w) (b := sp % w) (by omega)
  obtain ⟨k, hk⟩ := gcdI_dvd_left w (sp % w)
  obtain ⟨m, hm⟩ := gcdI_dvd_right w (sp % w)
  have e1 : w / gcdI w (sp % w) = k := by
    conv => lhs; lhs; rw [hk]
    exact Int.mul_ediv_cancel_left k (by omega)
  have e2 := Int.mul_ediv_add_emod sp w
  refine ⟨sp / w * k + m, ?_⟩
  rw [e1]
  conv => lhs; lhs; rw [← e2]
  rw [Int.add_mul, Int.mul_add, Int.mul_assoc]
  have : sp % w * k = w * m := by
    conv => lhs; rw [hm]
    conv => rhs; lhs; rw [hk]
    rw [Int.mul_assoc, Int.mul_assoc, Int.mul_comm m k]
  rw [this]
theorem per_pos {sp w : Int} (hw : 0 < w) : 1 ≤ w / gcdI w (sp % w) := by
  have g0 := gcdI_pos (a := w) (b := sp % w) (by omega)
  have g1 := gcdI_le_left (sp % w) hw
  have := (Int.le_ediv_iff_mul_le g0 (a := 1) (b := w)).mpr (by omega)
  exact this
theorem hitAt_per {st sp w n i : Int} (hw : 0 < w) : HitAt st sp w n (i + w / gcdI w (sp % w)) ↔ HitAt st sp w n i := by
  obtain ⟨q, hq⟩ := per_mul (sp := sp) hw
  refine hitAt_congr ?_
  rw [Int.mul_add, hq, ← Int.add_assoc, Int.add_mul_emod_self_left]
theorem firstHit_lt_per {st sp w n i : Int} (hw : 0 < w) (hn : 1 ≤ n) (e : firstHit st sp w n = some i) : i < w / gcdI w (sp % w) := by
  have h := firstHit_least (st := st) (sp := sp) hw hn
  rw [e] at h
  have p := per_pos (sp := sp) hw
  by_cases c : i < w / gcdI w (sp % w)
  · exact c
  · refine absurd ?_ (h.2.2 (i - w / gcdI w (sp % w)) (by omega) (by omega))
    rw [← hitAt_per hw]
    have e : i - w / gcdI w (sp % w) + w / gcdI w (sp % w) = i := by omega
    rw [e]; exact h.2.1
end SM
namespace SM
def NoPart (n k : Int) : Prop := ∀ d, 2 ≤ d → d < k → ¬ d ∣ n
structure IsPart (n d : Int) : Prop where
  two : 2 ≤ d
  dvd : d ∣ n
  least : NoPart n d
theorem isPart_self {n p : Int} (h2 : 2 ≤ n) (h : NoPart n p) (hp : 0 ≤ p) (hs : n < p * p) : IsPart n n := by
  refine ⟨h2, Int.dvd_refl n, fun d d2 dn dd => ?_⟩
  obtain ⟨e, he⟩ := dd
  have d0 : 0 < d := by omega
  have e2 : 2 ≤ e := by
    rcases (show e ≤ 0 ∨ e = 1 ∨ 2 ≤ e by omega) with c | c | c
    · have := Int.mul_le_mul_of_nonneg_left c (Int.le_of_lt d0); rw [Int.mul_zero] at this; omega
    · subst c; omega
    · exact c
  have hd : p ≤ d := by
    by_cases c : p ≤ d
    · exact c
    · exact absurd ⟨e, he⟩ (h d d2 (by omega))
  have hee : p ≤ e := by
    by_cases c : p ≤ e
    · exact c
    · exact absurd ⟨d, by rw [Int.mul_comm]; exact he⟩ (h e e2 (by omega))
  have := Int.mul_le_mul hd hee hp (by omega)
  omega
end SM
namespace SM
end SM
namespace SM
end SM
namespace SM
theorem hits_back {w a lo n i : Int} : Hits w a lo n (i - w) ↔ Hits w a lo n i := by
  unfold Hits
  have : a * (i - w) - lo = a * i - lo + w * (-a) := by rw [Int.mul_sub, Int.mul_neg, Int.mul_comm w a]; omega
  rw [this, Int.add_mul_emod_self_left]
theorem hitF_lt {w a lo n h : Int} (L : Lvl w a lo n) (e : hitF w a lo n = some h) : 0 ≤ h ∧ h < w := by
  have z := hitF_least L
  rw [e] at z
  refine ⟨z.1, ?_⟩
  by_cases c : h < w
  · exact c
  · exact absurd (hits_back.mpr z.2.1) (z.2.2 (h - w) (by omega) (by have := L.a0; have := L.aw; omega))
abbrev T3 := Int × Int × Int
def climb (lv : List T3) (h : Int) : Int := lv.foldr (fun t h => cdiv (t.1 * h + t.2.2) t.2.1) h
theorem climb_snoc (lv : List T3) (w a lo h : Int) : climb (lv ++ [(w, a, lo)]) h = climb lv (cdiv (w * h + lo) a) := by unfold climb; rw [List.foldr_append]; rfl
inductive Down (n w0 a0 lo0 : Int) : List T3 → Int → Int → Int → Prop
  | top : Down n w0 a0 lo0 [] w0 a0 lo0
  | go {lv : List T3} {w a lo : Int} : Down n w0 a0 lo0 lv w a lo → 0 < a → ¬ a * cdiv lo a ≤ lo + n - 1 → Down n w0 a0 lo0 (lv ++ [(w, a, lo)]) a (w % a) ((-(lo + n - 1)) % a)
theorem Down.lvl {n w0 a0 lo0 : Int} {lv : List T3} {w a lo : Int} (d : Down n w0 a0 lo0 lv w a lo) (L : Lvl w0 a0 lo0 n) : Lvl w a lo n ∧ w ≤ w0 ∧ ∀ t ∈ lv, 0 < t.2.1 ∧ t.2.1 < t.1 ∧ t.1 ≤ w0 ∧ 1 ≤ t.2.2 ∧ t.2.2 ≤ w0 := by
  induction d with
  | top => exact ⟨L, Int.le_refl _, fun t ht => nomatch ht⟩
  | @go lv w a lo d h h2 ih =>
    obtain ⟨l, b, c⟩ := ih
    refine ⟨l.down h h2, by have := l.aw; omega, fun t ht => ?_⟩
    rcases List.mem_append.mp ht with z | z
    · exact c t z
    · have : t = (w, a, lo) := by simpa using z
      subst this
      have := l.aw; have := l.l1; have := l.l2; have := l.n1
      exact ⟨h, by assumption, b, by assumption, by show lo ≤ w0; omega⟩
theorem Down.nohit {n w0 a0 lo0 : Int} {lv : List T3} {w a lo : Int} (d : Down n w0 a0 lo0 lv w a lo) (e : hitF w a lo n = none) : hitF w0 a0 lo0 n = none := by
  induction d with
  | top => exact e
  | @go lv w a lo d h h2 ih => exact ih (by rw [hitF_deep h h2, e]; rfl)
theorem Down.hit {n w0 a0 lo0 : Int} {lv : List T3} {w a lo h : Int} (d : Down n w0 a0 lo0 lv w a lo) (L : Lvl w0 a0 lo0 n) (e : hitF w a lo n = some h) :
    hitF w0 a0 lo0 n = some (climb lv h) ∧ ∀ i : Nat, 0 ≤ climb (lv.drop i) h ∧ climb (lv.drop i) h < w0 := by
  induction d generalizing h with
  | top =>
    have := hitF_lt L e
    exact ⟨e, fun i => by rw [List.drop_nil]; exact this⟩
  | @go lv w a lo d q q2 ih =>
    obtain ⟨l, b, _⟩ := d.lvl L
    have e2 : hitF w a lo n = some (cdiv (w * h + lo) a) := by rw [hitF_deep q q2, e]; rfl
    obtain ⟨i1, i2⟩ := ih e2
    refine ⟨by rw [climb_snoc]; exact i1, fun i => ?_⟩
    by_cases c : i ≤ lv.length
    · rw [List.drop_append_of_le_length c, climb_snoc]; exact i2 i
    · rw [List.drop_eq_nil_of_le (by simp; omega)]
      have := hitF_lt (l.down q q2) e
      have := l.aw
      exact ⟨by show 0 ≤ h; omega, by show h < w0; omega⟩
theorem half_mod {w a : Int} (h : 0 < a) (hw : a < w) : 2 * (a * (w % a)) ≤ w * a := by
  have e := Int.mul_ediv_add_emod w a
  have r1 := Int.emod_lt_of_pos w h
  have r0 := Int.emod_nonneg w (show a ≠ 0 by omega)
  have q1 : 1 ≤ w / a := (Int.le_ediv_iff_mul_le h).mpr (by omega)
  have := Int.mul_le_mul_of_nonneg_left q1 (Int.le_of_lt h)
  have e2 : 2 * (w % a) ≤ w := by omega
  have := Int.mul_le_mul_of_nonneg_left e2 (Int.le_of_lt h)
  rw [Int.mul_comm w a, ← Int.mul_assoc, Int.mul_comm 2 a, Int.mul_assoc]
  exact this
theorem Down.len {n w0 a0 lo0 : Int} {lv : List T3} {w a lo : Int} (d : Down n w0 a0 lo0 lv w a lo) (L : Lvl w0 a0 lo0 n) : 2 ^ lv.length * (w * a) ≤ w0 * a0 := by
  induction d with
  | top => simp
  | @go lv w a lo d h h2 ih =>
    obtain ⟨l, b, _⟩ := d.lvl L
    have m := half_mod h l.aw
    have p : (0 : Int) ≤ 2 ^ lv.length := Int.pow_nonneg (by decide)
    have := Int.mul_le_mul_of_nonneg_left m p
    rw [List.length_append, List.length_singleton, Int.pow_succ, Int.mul_assoc]
    omega
theorem Down.short {n w0 a0 lo0 : Int} {lv : List T3} {w a lo : Int} (d : Down n w0 a0 lo0 lv w a lo) (L : Lvl w0 a0 lo0 n) (B : Nat) (hB : w0 ≤ 2 ^ B) (h : 0 < a) : lv.length ≤ 2 * B := by
  have e := d.len L
  obtain ⟨l, b, _⟩ := d.lvl L
  have h1 : 1 ≤ w * a := by
    have := Int.mul_le_mul_of_nonneg_left (show 1 ≤ a by omega) (show (0:Int) ≤ w by have := l.aw; omega)
    have := l.aw
    omega
  have p : (0 : Int) ≤ 2 ^ lv.length := Int.pow_nonneg (by decide)
  have h2 := Int.mul_le_mul_of_nonneg_left h1 p
  have h3 : w0 * a0 ≤ 2 ^ B * 2 ^ B := Int.mul_le_mul hB (by have := L.aw; omega) L.a0 (Int.pow_nonneg (by decide))
  have h4 : (2 : Int) ^ lv.length ≤ 2 ^ (2 * B) := by
    rw [Nat.two_mul, Int.pow_add]; omega
  have h5 : (2 : Nat) ^ lv.length ≤ 2 ^ (2 * B) := by
    have : ((2 ^ lv.length : Nat) : Int) ≤ ((2 ^ (2 * B) : Nat) : Int) := by
      rw [Int.natCast_pow, Int.natCast_pow]; exact h4
    omega
  exact (Nat.pow_le_pow_iff_right (by decide)).mp h5
end SM
namespace L2
open PySem PySem.Spec PyProof.Rows SM
def tupW (t : T3) : HO := .tup [.int t.1, .int t.2.1, .int t.2.2]
def Pl (H : Hp) (xs : List V) (ws : List T3) : Prop := xs.length = ws.length ∧ ∀ (i : Nat) t, ws[i]? = some t → ∃ p, xs[i]? = some (.ref p) ∧ H p = some (tupW t)
theorem Pl.nil {H : Hp} : Pl H [] [] := ⟨rfl, fun i t e => by simp at e⟩
theorem Pl.same {H H' : Hp} {xs : List V} {ws : List T3} (g : Same H H') (h : Pl H xs ws) : Pl H' xs ws := ⟨h.1, fun i t e => let ⟨p, e1, e2⟩ := h.2 i t e; ⟨p, e1, g _ _ e2⟩⟩
theorem Pl.upd {H : Hp} {xs ys : List V} {ws : List T3} {L : Addr} {o : HO} (h : Pl H xs ws) (hL : H L = some (.lst ys)) : Pl (upd H L o) xs ws := ⟨h.1, fun i t e => by
  obtain ⟨p, e1, e2⟩ := h.2 i t e
  exact ⟨p, e1, by rw [upd_ne (ne_of e2 hL (by intro z; cases z))]; exact e2⟩⟩
theorem Pl.snoc {H : Hp} {xs : List V} {ws : List T3} {p : Addr} {t : T3} (h : Pl H xs ws) (hp : H p = some (tupW t)) : Pl H (xs ++ [.ref p]) (ws ++ [t]) := by
  refine ⟨by simp [h.1], fun i u e => ?_⟩
  by_cases c : i < ws.length
  · rw [List.getElem?_append_left c] at e
    obtain ⟨b, e1, e2⟩ := h.2 i u e
    exact ⟨b, by rw [List.getElem?_append_left (by rw [h.1]; exact c)]; exact e1, e2⟩
  · rw [List.getElem?_append_right (by omega)] at e
    have z : i - ws.length = 0 := by
      rcases Nat.eq_zero_or_pos (i - ws.length) with z | z
      · exact z
      · rw [List.getElem?_eq_none (by simp; omega)] at e; cases e
    rw [z] at e
    cases e
    exact ⟨p, by rw [List.getElem?_append_right (by rw [h.1]; omega), h.1, z]; rfl, hp⟩
theorem Pl.at {H : Hp} {xs : List V} {ws : List T3} (h : Pl H xs ws) {i : Nat} {x : V} (e : xs[i]? = some x) : ∃ p t, ws[i]? = some t ∧ x = .ref p ∧ H p = some (tupW t) := by
  have hi : i < ws.length := by
    rw [← h.1]
    exact (List.getElem?_eq_some_iff.mp e).1
  obtain ⟨p, e1, e2⟩ := h.2 i ws[i] (List.getElem?_eq_getElem hi)
  rw [e] at e1
  cases e1
  exact ⟨p, ws[i], List.getElem?_eq_getElem hi, rfl, e2⟩
theorem Pl.take {H : Hp} {xs : List V} {ws : List T3} (h : Pl H xs ws) (n : Nat) : Pl H (xs.take n) (ws.take n) := by
  refine ⟨by simp [h.1], fun i t e => ?_⟩
  rw [List.getElem?_take] at e ⊢
  split at e
  · rename_i c
    rw [if_pos c]
    exact h.2 i t e
  · cases e
theorem Pl.drop {H : Hp} {xs : List V} {ws : List T3} (h : Pl H xs ws) (n : Nat) : Pl H (xs.drop n) (ws.drop n) := by
  refine ⟨by simp [h.1], fun i t e => ?_⟩
  rw [List.getElem?_drop] at e ⊢
  exact h.2 _ t e
theorem Pl.append {H : Hp} {xs ys : List V} {ws vs : List T3} (h : Pl H xs ws) (k : Pl H ys vs) : Pl H (xs ++ ys) (ws ++ vs) := by
  refine ⟨by simp [h.1, k.1], fun i t e => ?_⟩
  by_cases c : i < ws.length
  · rw [List.getElem?_append_left c] at e
    rw [List.getElem?_append_left (by rw [h.1]; exact c)]
    exact h.2 i t e
  · rw [List.getElem?_append_right (by omega)] at e
    rw [List.getElem?_append_right (by rw [h.1]; omega), h.1]
    exact k.2 _ t e
theorem Pl.reverse {H : Hp} {xs : List V} {ws : List T3} (h : Pl H xs ws) : Pl H xs.reverse ws.reverse := by
  refine ⟨by simp [h.1], fun i t e => ?_⟩
  have hi : i < ws.length := by
    have := (List.getElem?_eq_some_iff.mp e).1
    simpa using this
  rw [List.getElem?_reverse hi] at e
  rw [List.getElem?_reverse (by rw [h.1]; exact hi), h.1]
  exact h.2 _ t e
theorem Pl.one {H : Hp} {p : Addr} {t : T3} (hp : H p = some (tupW t)) : Pl H [.ref p] [t] := (Pl.nil (H := H)).snoc hp
theorem Pl.ix {H : Hp} {xs : List V} {ws : List T3} (h : Pl H xs ws) {i : Int} (h0 : 0 ≤ i) (h1 : i < ws.length) : ∃ p t, atI xs i = some (.ref p) ∧ ws[i.toNat]? = some t ∧ t ∈ ws ∧ H p = some (tupW t) := by
  have hk : i.toNat < ws.length := by omega
  obtain ⟨p, e1, e2⟩ := h.2 i.toNat ws[i.toNat] (List.getElem?_eq_getElem hk)
  have ek : i = ((i.toNat : Nat) : Int) := by omega
  have q : atI xs ((i.toNat : Nat) : Int) = some (.ref p) := atI_nat e1
  rw [← ek] at q
  exact ⟨p, _, q, List.getElem?_eq_getElem hk, List.getElem_mem hk, e2⟩
def dW (t : T3) : PyData := .tuple [.int t.1, .int t.2.1, .int t.2.2]
theorem dd_tupW {K : PySem.W.Frag} {H : Hp} {p : Addr} {t : T3} (h : H p = some (tupW t)) : DD K H (.ref p) (dW t) := .tup (SqT.of h) (.cons (.int _) (.cons (.int _) (.cons (.int _) .nil)))
theorem Pl.dds {K : PySem.W.Frag} {H : Hp} : ∀ {ws : List T3} {xs : List V}, Pl H xs ws → DDs K H xs (ws.map dW)
  | [], [], _ => .nil
  | [], _ :: _, h => by have := h.1; simp at this
  | _ :: _, [], h => by have := h.1; simp at this
  | t :: ws, x :: xs, h => by
    obtain ⟨p, e1, e2⟩ := h.2 0 t rfl
    cases e1
    refine .cons (dd_tupW e2) (Pl.dds ⟨by have := h.1; simpa using this, fun i u e => ?_⟩)
    have := h.2 (i + 1) u (by simpa using e)
    simpa using this
theorem Pl.dd {K : PySem.W.Frag} {H : Hp} {a : Addr} {ws : List T3} {xs : List V} (hs : SqL K H a xs) (h : Pl H xs ws) : DD K H (.ref a) (.list (ws.map dW)) := .lst hs h.dds
section
variable {K : PySem.W.Frag} {H : Hp} {Q : VK} {a b : Addr} {xs ys : List V} {ws vs : List T3}
end
end L2
namespace L2
open PySem PySem.Spec PyProof.Rows
theorem Inv.turnedLaid {X : Cx} {pins : List (Addr × Obj)} {σ : St} {H : Hp} {s : Shared} {h' : Heap} {t' : Nat} {ch : List Addr} {T : Addr} {o : HO} (I : Inv X pins σ H s) (k : ∀ b u, b ∉ ch → s.heap.get? b = some u → h'.get? b = some u)
    (hc : ∀ b ∈ ch, FpOk X pins H b) (hT : s.heap.objs.size ≤ T) (new : ObjOk X.prog X.w (upd H T o) h' T o) : Inv X pins σ (upd H T o) { s with heap := h', toks := t' } := by
  have nT : H T = none := I.hok.fresh hT
  have nit : ∀ b u, H b = some u → b ∉ ch := fun b u e z => by rw [(hc b z).1] at e; cases e
  have lt : ∀ b u, s.heap.get? b = some u → b ≠ T := fun b u e => Nat.ne_of_lt (Nat.lt_of_lt_of_le (Heap.lt_size e) hT)
  refine I.step (g' := s.gens) (d' := s.drawn) (ch := ch) (fun b hb => ⟨(hc b hb).2.2.2.1, (hc b hb).2.1, (hc b hb).2.2.2.2.1, (hc b hb).2.2.2.2.2⟩) (fun b u _ _ h e _ => k b u h e) (fun b u _ _ h e _ => ⟨u.slots, k b u h e⟩)
    (fun b u _ e n => by rw [upd_ne (lt b u e)]; exact n) (fun b u h e => ⟨u, k b u h e⟩) (fun b xs e => by rw [upd_ne (ne_of_none e nT)]; exact e) (fun b u v e => by rw [upd_ne (ne_of_none e nT)]; exact e)
    (fun b ps e => ⟨#[], by rw [upd_ne (ne_of_none e nT), e]; simp⟩) (fun m hm => ?_) (fun b u e => ?_) I.bare
  · obtain ⟨u, es, ep, ho, r⟩ := hm
    exact ⟨u, es, ep, k _ u (fun z => (hc _ z).2.1 rfl) ho, r⟩
  · by_cases hb : b = T
    · subst hb
      rw [upd_same] at e
      cases e
      exact new
    · rw [upd_ne hb] at e
      refine (I.hok b u e).stay (fun c v hcc q => k c v ?_ q) (fun c q => by rw [upd_ne (ne_of_none q nT)]; exact q) fun c xs q => by rw [upd_ne (ne_of_none q nT)]; exact q
      rcases hcc with z | z
      · rw [z]; exact nit b u e
      · exact nit c _ z
theorem Inv.turnedL {X : Cx} {pins : List (Addr × Obj)} {σ : St} {H : Hp} {s : Shared} {h' : Heap} {t' : Nat} {ch : List Addr} (I : Inv X pins σ H s) (k : ∀ b u, b ∉ ch → s.heap.get? b = some u → h'.get? b = some u)
    (hc : ∀ b ∈ ch, FpOk X pins H b) : Inv X pins σ H { s with heap := h', toks := t' } := by
  have nit : ∀ b u, H b = some u → b ∉ ch := fun b u e z => by rw [(hc b z).1] at e; cases e
  refine I.step (g' := s.gens) (d' := s.drawn) (ch := ch) (fun b hb => ⟨(hc b hb).2.2.2.1, (hc b hb).2.1, (hc b hb).2.2.2.2.1, (hc b hb).2.2.2.2.2⟩) (fun b u _ _ h e _ => k b u h e) (fun b u _ _ h e _ => ⟨u.slots, k b u h e⟩)
    (fun _ _ _ _ n => n) (fun b u h e => ⟨u, k b u h e⟩) (fun _ _ e => e) (fun _ _ _ e => e) (fun b ps e => ⟨#[], by rw [e]; simp⟩) (fun m hm => ?_) (fun b u e => ?_) I.bare
  · obtain ⟨u, es, ep, ho, r⟩ := hm
    exact ⟨u, es, ep, k _ u (fun z => (hc _ z).2.1 rfl) ho, r⟩
  · refine (I.hok b u e).stay (fun c v hcc q => k c v ?_ q) (fun _ q => q) fun _ _ q => q
    rcases hcc with z | z
    · rw [z]; exact nit b u e
    · exact nit c _ z
def Itp (n : Nat) (ok : Hp → Prop) (f : Nat → Hp → V → V → Prop) : It :=
  ⟨fun i H => i < n ∧ ok H, fun i H x H' => ∃ T u v, H T = none ∧ x = .ref T ∧ H' = upd H T (.tup [u, v]) ∧ f i H u v, fun i H => i = n ∧ ok H⟩
def okZ (K : PySem.W.Frag) (a b : Addr) (n : Nat) (H : Hp) : Prop := ∃ xs ys, SqL K H a xs ∧ SqL K H b ys ∧ min xs.length ys.length = n
def Itz (K : PySem.W.Frag) (a b : Addr) (n : Nat) : It := Itp n (okZ K a b n) fun i H u v => (∀ xs, SqL K H a xs → xs[i]? = some u) ∧ ∀ ys, SqL K H b ys → ys[i]? = some v
def iZip (K : PySem.W.Frag) (ta tb : TE) : TI := fun σ H R => ta σ H fun x H1 => tb σ H1 fun y H2 => ∃ a b xs ys, x = .ref a ∧ y = .ref b ∧ SqL K H2 a xs ∧ SqL K H2 b ys ∧ R (Itz K a b (min xs.length ys.length)) H2
section
variable {X : Cx} {es : List Expr} {k : Nat} {tpos : Pos}
end
theorem iZip_ap {K : PySem.W.Frag} {ta tb : TE} {σ : St} {H : Hp} {R : It → Hp → Prop} : iZip K ta tb σ H R = ta σ H fun x H1 => tb σ H1 fun y H2 => ∃ a b xs ys, x = .ref a ∧ y = .ref b ∧ SqL K H2 a xs ∧ SqL K H2 b ys ∧ R (Itz K a b (min xs.length ys.length)) H2 := rfl
def okE (K : PySem.W.Frag) (a : Addr) (n : Nat) (H : Hp) : Prop := ∃ xs, SqL K H a xs ∧ xs.length = n
def Ite (K : PySem.W.Frag) (a : Addr) (n : Nat) : It := Itp n (okE K a n) fun i H u v => u = .int i ∧ ∀ xs, SqL K H a xs → xs[i]? = some v
def tnE (e it l : Addr) (i : Nat) (h : Heap) : Prop := (∃ old, IsEnum h e it i old) ∧ h.IsListIter it l i
theorem turn_enum {P : Program} {w : World} {K : PySem.W.Frag} {es : List Expr} {k : Nat} {pos : Pos} {e it l : Addr} {n : Nat} (d1 : e ≠ it) (d2 : l ≠ e) (d3 : l ≠ it) :
    Turn P w K (.Tuple es k pos) (Ite K l n) [e, it] e (tnE e it l) where
  mem := by simp
  obj := fun i h st b hb => by
    obtain ⟨⟨old, h1⟩, ⟨o4, h4, _, d4⟩⟩ := st
    simp only [List.mem_cons, List.not_mem_nil, or_false] at hb
    rcases hb with rfl | rfl
    · exact ⟨_, h1, fun v q => nomatch q⟩
    · exact ⟨_, h4, fun v q => by rw [d4] at q; cases q⟩
  keep := fun i h h' st kk => by
    obtain ⟨⟨old, h1⟩, h4⟩ := st
    exact ⟨⟨old, kk _ (by simp) _ h1⟩, h4.at fun o e => kk _ (by simp) o e⟩
  item := by
    intro X hP hw hK hc i pins s σ H E I hf st hg
    subst hP hw hK
    obtain ⟨hi, xs, ha, hn⟩ := hg
    obtain ⟨us, ru, pu, _⟩ := I.list ha
    have lu := ru.length
    obtain ⟨h1, h4⟩ := st
    have WT := WalksT.enumerate (prog := X.prog) (w := X.w) (A := X.A) (I.ok.hd hc) e it l d1 d2 d3 us.toArray
    refine WT.item i s _ _ (by simp only [List.size_toArray]; omega) ⟨h1, h4, pu.isList⟩ fun T vals h' tk hPt hT tup mid kk => ?_
    obtain ⟨t, x, ex, rfl⟩ := hPt
    have ex' : us[i]? = some x := by simpa using ex
    have hxl : i < xs.length := by omega
    have gx : xs[i]? = some xs[i] := List.getElem?_eq_getElem hxl
    obtain ⟨x2, q1, rx⟩ := ru.get gx
    rw [ex'] at q1
    cases q1
    refine ⟨.ref T, rfl, WT.go es k pos i T { s with heap := h', toks := tk } _ _ mid fun h2' st2 kk2 => ?_⟩
    have Tw := WT.apart i T h' mid
    have nT : H T = none := I.hok.fresh hT
    obtain ⟨oT, hoT, cT, nT2, dT⟩ := tup
    have tup2 : IsTup h2' T #[.int i t, x] := ⟨oT, kk2 T oT Tw hoT, cT, nT2, dT⟩
    have I2 : Inv X pins σ (upd H T (.tup [.int i, xs[i]])) { s with heap := h2', toks := tk } :=
      I.turnedLaid (fun b u hb e => kk2 b u hb (kk b u hb e)) (fun b hb => hf b hb) hT ⟨show 2 ≤ sizeLine by decide, [.int i t, x], .cons ⟨t, rfl⟩ (.cons rx .nil), tup2⟩
    refine ⟨.ref T, _, I2, rfl, ⟨T, .int i, xs[i], nT, rfl, rfl, rfl, fun zs hz => by rw [I.list_inj hz ha]; exact gx⟩, ?_, fun b hb => ?_⟩
    · obtain ⟨a1, a2, _⟩ := st2
      exact ⟨a1, a2⟩
    · have : b ≠ T := by
        rintro rfl
        simp only [List.mem_cons, List.not_mem_nil, or_false] at hb
        have lt : b < s.heap.objs.size := by
          obtain ⟨old, h1⟩ := h1
          obtain ⟨o4, h4, _⟩ := h4
          rcases hb with rfl | rfl
          · exact Heap.lt_size h1
          · exact Heap.lt_size h4
        exact absurd (Nat.lt_of_lt_of_le lt hT) (Nat.lt_irrefl _)
      rw [upd_ne this]
      exact (hf b hb).1
  done := by
    intro X hP hw hK hc i pins s σ H E I hf st hg
    subst hP hw hK
    obtain ⟨hi, xs, ha, hn⟩ := hg
    obtain ⟨us, ru, pu, _⟩ := I.list ha
    have lu := ru.length
    obtain ⟨h1, h4⟩ := st
    have WT := WalksT.enumerate (prog := X.prog) (w := X.w) (A := X.A) (I.ok.hd hc) e it l d1 d2 d3 us.toArray
    have ei : us.toArray.size = i := by simp only [List.size_toArray]; omega
    refine WT.done s _ _ (by rw [ei]; exact ⟨h1, h4, pu.isList⟩) fun h' tk kk => ⟨rfl, I.turnedL kk fun b hb => hf b hb⟩
  self := fun A i s Q E st h => by
    obtain ⟨⟨old, h1⟩, _⟩ := st
    exact wpAny_pyIter_enum h1 h
def iEnum (K : PySem.W.Frag) (ta : TE) : TI := fun σ H R => ta σ H fun x H1 => ∃ a xs, x = .ref a ∧ SqL K H1 a xs ∧ R (Ite K a xs.length) H1
section
variable {X : Cx} {es : List Expr} {k : Nat} {tpos : Pos}
theorem pi_enum {l : Expr} {tl : TE} {p pos : Pos} (hg : Gl X "enumerate") (hm : X.mg "enumerate" = none) (hl : PE X l tl) (hs : starEach [l] X.env = [(false, eval l X.env)] := by rfl) :
    PI X (.Tuple es k tpos) (.Call (.Name "enumerate" p) [l] [] pos) (iEnum X.K tl) := by
  intro pins s σ H R I h
  refine Call_ (ld_blt I hg hm (u := .type "enumerate") (by decide +kernel) (PyProof.Rows.callWith_type1 ?_ hs rfl))
  refine thn ((pa_cons hl pa_nil hs) pos pins s σ H (fun vs H1 => ∃ x : V, vs = [x] ∧ ∃ a xs, x = .ref a ∧ SqL X.K H1 a xs ∧ R (Ite X.K a xs.length) H1) I ?_) fun us s1 ⟨vs, H1, I1, r, x, e, a, xs, ea, ha, q⟩ => ?_
  · show tl σ H fun x H1 => ∃ x', [x] = [x'] ∧ _
    have e : (fun (x : V) (H1 : Hp) => ∃ x', [x] = [x'] ∧ ∃ a xs, x' = V.ref a ∧ SqL X.K H1 a xs ∧ R (Ite X.K a xs.length) H1) = fun (x : V) (H1 : Hp) => ∃ a xs, x = V.ref a ∧ SqL X.K H1 a xs ∧ R (Ite X.K a xs.length) H1 := by
      funext x H1
      refine propext ⟨fun ⟨x', e, q⟩ => ?_, fun q => ⟨x, rfl, q⟩⟩
      cases e
      exact q
    rw [e]
    exact h
  subst e ea
  obtain ⟨u, rfl, r1⟩ := Vals.one r
  cases r1
  obtain ⟨us, ru, pu, _⟩ := I1.list ha
  have la : a < s1.heap.objs.size := by obtain ⟨o, e, _⟩ := pu.isList; exact Heap.lt_size e
  refine call_enumerate_list pu.isList fun h' hz hi1 hsz hk => ?_
  refine wpAny_pyIter_enum hz ?_
  have I2 : Inv X pins σ H1 { s1 with heap := h' } := I1.kept (t' := s1.toks) hk
  refine ⟨_, _, _, _, H1, rfl, I2, turn_enum (Nat.succ_ne_self _) (Nat.ne_of_lt (Nat.lt_succ_of_lt la)) (Nat.ne_of_lt la), ⟨⟨_, hz⟩, hi1⟩, fun c hc => ?_, q⟩
  have hc' : s1.heap.objs.size ≤ c := by
    simp only [List.mem_cons, List.not_mem_nil, or_false] at hc
    rcases hc with rfl | rfl <;> first | exact Nat.le_refl _ | exact Nat.le_add_right _ _
  exact I1.fpOk hc' (I1.hok.fresh hc')
end
theorem iEnum_ap {K : PySem.W.Frag} {ta : TE} {σ : St} {H : Hp} {R : It → Hp → Prop} : iEnum K ta σ H R = ta σ H fun x H1 => ∃ a xs, x = .ref a ∧ SqL K H1 a xs ∧ R (Ite K a xs.length) H1 := rfl
theorem forW_enum {K : PySem.W.Frag} {a : Addr} {xs : List V} {g : TG} {tb : TS} {D : Ends} {σ : St} {H : Hp} (Pv : Nat → St → Hp → Prop) (h0 : Pv 0 σ H) (hl : ∀ i σ H, Pv i σ H → SqL K H a xs)
    (hs : ∀ (i : Nat) v T σ H, xs[i]? = some v → H T = none → Pv i σ H → g (.ref T) σ (upd H T (.tup [.int i, v])) fun σ2 H2 => tb { D with nx := Pv (i + 1), ct := Pv (i + 1), bk := D.nx } σ2 H2)
    (hd : ∀ σ H, Pv xs.length σ H → D.nx σ H) : ForW (Ite K a xs.length) g tb D σ H := by
  refine ⟨fun i m σ H => m = xs.length - i ∧ i ≤ xs.length ∧ Pv i σ H, ⟨_, rfl, Nat.zero_le _, h0⟩, ?_⟩
  rintro i m σ1 H1 ⟨rfl, hi, p⟩
  have qa := hl i σ1 H1 p
  by_cases hlt : i < xs.length
  · refine .inr ⟨⟨hlt, xs, qa, rfl⟩, Pv (i + 1), fun σ' H' p' => ⟨xs.length - (i + 1), by omega, rfl, hlt, p'⟩, fun x H' y => ?_⟩
    obtain ⟨T, u, v, nT, rfl, rfl, rfl, f2⟩ := y
    exact hs i v T σ1 H1 (f2 xs qa) nT p
  · have e : i = xs.length := by omega
    subst e
    exact .inl ⟨⟨rfl, xs, qa, rfl⟩, hd σ1 H1 p⟩
end L2
namespace L2
open PySem PySem.Spec PyProof.Rows
def Its (lo c : Int) (n : Nat) : It := ⟨fun i _ => i < n, fun i H x H' => H' = H ∧ x = .int (lo + i * c), fun i _ => n ≤ i⟩
theorem turn_rangeS {P : Program} {w : World} {K : PySem.W.Frag} {tg : Expr} (it : Addr) (lo c : Int) (n : Nat) : Turn P w K tg (Its lo c n) [it] it (fun i h => IsRangeIter h it (lo + (i : Nat) * c) ((n : Int) - (i : Nat)) c) where
  mem := by simp
  obj := fun i h st b hb => by
    obtain rfl : b = it := by simpa using hb
    exact ⟨_, st, fun v z => nomatch (show Data.fields _ = Data.cell v from z)⟩
  keep := fun i h h' st k => k it (by simp) _ st
  item := by
    intro X hP hw hK hc i pins s σ H E I hf st hg
    subst hP hw hK
    obtain ⟨f0, f1, f2, f3, f4, f5⟩ := hf it (by simp)
    have WR := Walks.range (prog := X.prog) (w := X.w) (I.ok.hd hc) it lo c n
    refine WR.item i s _ _ hg st fun v h' tk hv st' kk => ?_
    obtain ⟨t, rfl⟩ := hv
    have I1 : Inv X pins σ H { s with heap := h', toks := tk } := I.turned (fun b o hb e => kk b o (by simpa using hb) e) f0 f1 f3 f4 f5
    exact ⟨_, rfl, go_of (s := { s with heap := h', toks := tk }) (n := "range_iterator") st' rfl rfl (by decide) ⟨.int (lo + i * c), H, I1, ⟨t, rfl⟩, ⟨rfl, rfl⟩, st', fun b hb => (hf b hb).1⟩⟩
  done := by
    intro X hP hw hK hc i pins s σ H E I hf st hg
    subst hP hw hK
    obtain ⟨f0, f1, f2, f3, f4, f5⟩ := hf it (by simp)
    exact wpAny_pyNext_range_end (I.ok.hd hc) st (by have : n ≤ i := hg; omega) fun h' eb => ⟨rfl, I.turned (t' := s.toks) (fun b o hb e => eb b o hb e) f0 f1 f3 f4 f5⟩
  self := fun _ _ _ _ _ st h => wpAny_pyIter_rangeiter st h
theorem turn_rangeL {P : Program} {w : World} {K : PySem.W.Frag} {tg : Expr} (it : Addr) (lo c : Int) (n : Nat) : Turn P w K tg (Its lo c n) [it] it (fun i h => IsLongIter h it (lo + (i : Nat) * c) ((n : Int) - (i : Nat)) c) where
  mem := by simp
  obj := fun i h st b hb => by
    obtain rfl : b = it := by simpa using hb
    exact ⟨_, st, fun v z => nomatch (show Data.fields _ = Data.cell v from z)⟩
  keep := fun i h h' st k => k it (by simp) _ st
  item := by
    intro X hP hw hK hc i pins s σ H E I hf st hg
    subst hP hw hK
    obtain ⟨f0, f1, f2, f3, f4, f5⟩ := hf it (by simp)
    have WR := Walks.longrange (prog := X.prog) (w := X.w) (I.ok.hd hc) it lo c n
    refine WR.item i s _ _ hg st fun v h' tk hv st' kk => ?_
    obtain ⟨t, rfl⟩ := hv
    have I1 : Inv X pins σ H { s with heap := h', toks := tk } := I.turned (fun b o hb e => kk b o (by simpa using hb) e) f0 f1 f3 f4 f5
    exact ⟨_, rfl, go_of (s := { s with heap := h', toks := tk }) (n := "longrange_iterator") st' rfl rfl (by decide) ⟨.int (lo + i * c), H, I1, ⟨t, rfl⟩, ⟨rfl, rfl⟩, st', fun b hb => (hf b hb).1⟩⟩
  done := by
    intro X hP hw hK hc i pins s σ H E I hf st hg
    subst hP hw hK
    obtain ⟨f0, f1, f2, f3, f4, f5⟩ := hf it (by simp)
    exact wpAny_pyNext_long_end (I.ok.hd hc) st (by have : n ≤ i := hg; omega) fun h' eb => ⟨rfl, I.turned (t' := s.toks) (fun b o hb e => eb b o hb e) f0 f1 f3 f4 f5⟩
  self := fun _ _ _ _ _ st h => wpAny_pyIter_longiter st h
section
variable {X : Cx} {tg : Expr}
theorem range_its {pins : List (Addr × Obj)} {σ : St} {H : Hp} {s : Shared} {R : It → Hp → Prop} {E : Value → Shared → Prop} {lo hi c : Int} {t u v : Tok} {tk : Nat} (I : Inv X pins σ H s) {n : Nat} (hn : (n : Int) = Builtin.Range.rangeSize lo hi c)
    (q : R (Its lo c n) H) : wpAny (model X.prog X.w) X.A (pyIter (.ref s.heap.objs.size)) (PIE X pins σ tg R) E { s with heap := s.heap.push { cls := .type "range", data := .fields #[.int lo t, .int hi u, .int c v] }, toks := tk } := by
  have I1 : Inv X pins σ H { s with heap := s.heap.push { cls := .type "range", data := .fields #[.int lo t, .int hi u, .int c v] }, toks := tk } := I.kept fun b o e => Heap.get?_push_of_some _ e
  have e1 : lo + ((0 : Nat) : Int) * c = lo := by simp
  have e2 : ((n : Nat) : Int) - ((0 : Nat) : Int) = Builtin.Range.rangeSize lo hi c := by rw [← hn]; simp
  by_cases hs : Builtin.Range.small lo hi c = true
  · refine wpAny_pyIter_range (IsRange.new ..) hs ?_
    refine ⟨_, [_], _, _, H, rfl, I1.kept (t' := tk) fun b o e => Heap.get?_push_of_some _ e, turn_rangeS _ lo c n, ?_, fun b hb => ?_, q⟩
    · show IsRangeIter _ _ (lo + ((0 : Nat) : Int) * c) (((n : Nat) : Int) - ((0 : Nat) : Int)) c
      rw [e1, e2]
      exact Heap.get?_push_size _ rfl
    · obtain rfl := List.mem_singleton.mp hb
      exact I1.fpOk (Nat.le_refl _) (I1.hok.fresh (Nat.le_refl _))
  · refine wpAny_pyIter_longrange (IsRange.new ..) (by simpa using hs) ?_
    refine ⟨_, [_], _, _, H, rfl, I1.kept (t' := tk) fun b o e => Heap.get?_push_of_some _ e, turn_rangeL _ lo c n, ?_, fun b hb => ?_, q⟩
    · show IsLongIter _ _ (lo + ((0 : Nat) : Int) * c) (((n : Nat) : Int) - ((0 : Nat) : Int)) c
      rw [e1, e2]
      exact Heap.get?_push_size _ rfl
    · obtain rfl := List.mem_singleton.mp hb
      exact I1.fpOk (Nat.le_refl _) (I1.hok.fresh (Nat.le_refl _))
def iRngA (ta : TA) : TI := fun σ H R => ta σ H fun vs H1 => ∃ i j : Int, vs = [.int i, .int j] ∧ R (Its i 1 (j - i).toNat) H1
def iRng3 (ta : TA) : TI := fun σ H R => ta σ H fun vs H1 => ∃ (i j c : Int) (n : Nat), vs = [.int i, .int j, .int c] ∧ 0 < c ∧ c < 1000000 ∧ (n : Int) = Builtin.Range.rangeSize i j c ∧ R (Its i c n) H1
theorem pi_range3 {a b c : Expr} {ta : TA} {p pos : Pos} (hg : Gl X "range") (hm : X.mg "range" = none) (ha : PA X [a, b, c] ta) (hs : starEach [a, b, c] X.env = [(false, eval a X.env), (false, eval b X.env), (false, eval c X.env)] := by rfl) (hs2 : starEach [b, c] X.env = [(false, eval b X.env), (false, eval c X.env)] := by rfl) :
    PI X tg (.Call (.Name "range" p) [a, b, c] [] pos) (iRng3 ta) := by
  intro pins s σ H R I h
  refine Call_ (ld_blt I hg hm boot_range (PyProof.Rows.callWith_type1 (thn (ha pos pins s σ H _ I h) fun us s1 ⟨vs, H1, I1, r1, q1⟩ => ?_) (by rw [hs, hs2]) (by rw [hs2]; rfl)))
  obtain ⟨i, j, c, n, e, c0, c1, hn, q⟩ := q1
  subst e
  cases r1 with
  | cons r rr =>
    obtain ⟨u, v, rfl, ⟨t, rfl⟩, ⟨t', rfl⟩⟩ := Vals.two rr
    obtain ⟨t2, rfl⟩ := r
    exact call_range_3 (by omega) (range_its I1 hn q) (Or.inl (PyProof.noPylong_small (by omega)))
end
section
variable {D : Ends} {σ : St} {H : Hp} {Q : VK}
theorem iRngA_ap {ta : TA} {R : It → Hp → Prop} : iRngA ta σ H R = ta σ H fun vs H1 => ∃ i j : Int, vs = [.int i, .int j] ∧ R (Its i 1 (j - i).toNat) H1 := rfl
theorem iRng3_ap {ta : TA} {R : It → Hp → Prop} : iRng3 ta σ H R = ta σ H fun vs H1 => ∃ (i j c : Int) (n : Nat), vs = [.int i, .int j, .int c] ∧ 0 < c ∧ c < 1000000 ∧ (n : Int) = Builtin.Range.rangeSize i j c ∧ R (Its i c n) H1 := rfl
theorem forW_its {lo c : Int} {n : Nat} {g : TG} {tb : TS} (Pv : Nat → St → Hp → Prop) (h0 : Pv 0 σ H)
    (hs : ∀ i σ H, i < n → Pv i σ H → g (.int (lo + i * c)) σ H fun σ2 H2 => tb { D with nx := Pv (i + 1), ct := Pv (i + 1), bk := D.nx } σ2 H2) (hd : ∀ σ H, Pv n σ H → D.nx σ H) : ForW (Its lo c n) g tb D σ H := by
  refine ⟨fun i m σ H => m = n - i ∧ i ≤ n ∧ Pv i σ H, ⟨_, rfl, Nat.zero_le _, h0⟩, ?_⟩
  rintro i m σ1 H1 ⟨rfl, hi, p⟩
  by_cases hlt : i < n
  · refine .inr ⟨hlt, Pv (i + 1), fun σ' H' p' => ⟨n - (i + 1), by omega, rfl, hlt, p'⟩, fun x H' y => ?_⟩
    obtain ⟨e, y⟩ := y
    subst e y
    exact hs i σ1 _ hlt p
  · have e : i = n := by omega
    subst e
    exact .inl ⟨Nat.le_refl _, hd σ1 H1 p⟩
end
theorem rsN {a b c : Int} (h : 0 < c) : ((Builtin.Range.rangeSize a b c).toNat : Int) = Builtin.Range.rangeSize a b c := by
  unfold Builtin.Range.rangeSize
  rw [if_pos h]
  split
  · have := Int.ediv_nonneg (show 0 ≤ b - a - 1 by omega) (show 0 ≤ c by omega)
    omega
  · rfl
theorem rsLt {a b c : Int} (h : 0 < c) {i : Nat} (hi : i < (Builtin.Range.rangeSize a b c).toNat) : a + i * c < b := by
  have e := rsN (a := a) (b := b) h
  have hi' : (i : Int) < Builtin.Range.rangeSize a b c := by omega
  unfold Builtin.Range.rangeSize at hi'
  rw [if_pos h] at hi'
  split at hi'
  · have h1 : (i : Int) ≤ (b - a - 1) / c := by omega
    have h2 := (Int.le_ediv_iff_mul_le h).mp h1
    omega
  · omega
end L2
namespace L2
open PySem PySem.Spec PyProof.Rows
def CI (mg : Str → Option Value) (x : Str) (n : Int) : Prop := ∃ t, mg x = some (.int n t)
theorem ci_mk {K : PySem.W.Frag} {h : Heap} {mg : Str → Option Value} {x : Str} {n : Int} {t : Tok} (X : K.In h) (G : h.Ns mainGlobals mg) (a : PySem.W.nsIn K mainGlobals x = some (some (.int n t))) : CI mg x n := ⟨t, PySem.W.mg_of X G a⟩
theorem pe_ci {X : Cx} {x : Str} {n : Int} {pos : Pos} (hg : Gl X x) (h : CI X.mg x n) (hd : (x == ("__debug__" : Str)) = false := by decide) : PE X (.Name x pos) (tC (.int n)) := by
  obtain ⟨t, e⟩ := h
  exact pe_glob hg e ⟨t, rfl⟩ hd
def CT (K : PySem.W.Frag) (mg : Str → Option Value) (x : Str) (ns : List Int) : Prop := ∃ a : Addr, mg x = some (.ref a) ∧ ∀ H : Hp, SqT K H a (ns.map V.int)
theorem ct_mk {K : PySem.W.Frag} {h : Heap} {mg : Str → Option Value} {x : Str} {ns : List Int} {a : Addr} {o : Obj} {its : Array Value} {n : Nat} (X : K.In h) (G : h.Ns mainGlobals mg) (e : PySem.W.nsIn K mainGlobals x = some (some (.ref a)))
    (l : K.lookup a = some o) (c : o.cls = .type "tuple") (d : o.data = .seq its n) (z : its.size ≤ sizeLine) (v : Vals (ns.map V.int) its.toList) : CT K mg x ns := ⟨a, PySem.W.mg_of X G e, fun _ => .inr ⟨o, its, n, l, c, d, z, v⟩⟩
end L2
namespace SM
def liesB (u : T3) (s r : Int) : Bool := decide (u.1 - u.2.2 ≤ (r - u.2.1 - u.2.2) % gcdI s u.1)
end SM
namespace L2
open PySem PySem.Spec PyProof.Rows SM
inductive Pap where
  | inn (k : Int)
  | par (b : Int) (ps : List Pap)
mutual
def Pap.dep : Pap → Nat
  | .inn _ => 0
  | .par _ ps => Pap.deps ps + 1
def Pap.deps : List Pap → Nat
  | [] => 0
  | p :: ps => max p.dep (Pap.deps ps)
end
theorem Pap.dep_mem : ∀ {ps : List Pap} {p : Pap}, p ∈ ps → p.dep ≤ Pap.deps ps
  | q :: ps, p, h => by
    simp only [Pap.deps]
    rcases List.mem_cons.mp h with e | e
    · rw [e]; omega
    · have := Pap.dep_mem e; omega
-- a paper that lies in the heap; N: what is known of the places of its lists
mutual
inductive PapIn (K : PySem.W.Frag) (N : Addr → Prop) (H : Hp) : V → Pap → Prop where
  | inn {a : Addr} {k : Int} : H a = some (.tup [.str "in", .int k]) → PapIn K N H (.ref a) (.inn k)
  | par {a l : Addr} {b : Int} {xs : List V} {ps : List Pap} : H a = some (.tup [.str "parted", .int b, .ref l]) → H l = some (.lst xs) → N l → xs.length < 2 ^ 60 → PapsIn K N H xs ps → PapIn K N H (.ref a) (.par b ps)
inductive PapsIn (K : PySem.W.Frag) (N : Addr → Prop) (H : Hp) : List V → List Pap → Prop where
  | nil : PapsIn K N H [] []
  | cons {x : V} {xs : List V} {p : Pap} {ps : List Pap} : PapIn K N H x p → PapsIn K N H xs ps → PapsIn K N H (x :: xs) (p :: ps)
end
section
variable {K : PySem.W.Frag} {N N' : Addr → Prop} {H H' : Hp}
mutual
theorem PapIn.mono (g : Same H H') : ∀ {v : V} {p : Pap}, PapIn K N H v p → PapIn K N H' v p
  | _, _, .inn h => .inn (g _ _ h)
  | _, _, .par h hl n hz hs => .par (g _ _ h) (g _ _ hl) n hz (PapsIn.mono g hs)
theorem PapsIn.mono (g : Same H H') : ∀ {vs : List V} {ps : List Pap}, PapsIn K N H vs ps → PapsIn K N H' vs ps
  | _, _, .nil => .nil
  | _, _, .cons h hs => .cons (PapIn.mono g h) (PapsIn.mono g hs)
end
mutual
theorem PapIn.imp (f : ∀ l, N l → N' l) : ∀ {v : V} {p : Pap}, PapIn K N H v p → PapIn K N' H v p
  | _, _, .inn h => .inn h
  | _, _, .par h hl n hz hs => .par h hl (f _ n) hz (PapsIn.imp f hs)
theorem PapsIn.imp (f : ∀ l, N l → N' l) : ∀ {vs : List V} {ps : List Pap}, PapsIn K N H vs ps → PapsIn K N' H vs ps
  | _, _, .nil => .nil
  | _, _, .cons h hs => .cons (PapIn.imp f h) (PapsIn.imp f hs)
end
theorem upd_tup {D b : Addr} {zs ys : List V} {o : HO} (hD : H D = some (.lst zs)) (h : H b = some (.tup ys)) : upd H D o b = some (.tup ys) := by
  rw [upd_ne (ne_of h hD (by intro z; cases z))]
  exact h
mutual
theorem PapIn.write {D : Addr} {zs : List V} {o : HO} (hD : H D = some (.lst zs)) (f : ∀ l, N l → l ≠ D) : ∀ {v : V} {p : Pap}, PapIn K N H v p → PapIn K N (upd H D o) v p
  | _, _, .inn h => .inn (upd_tup hD h)
  | _, _, .par h hl n hz hs => .par (upd_tup hD h) (by rw [upd_ne (f _ n)]; exact hl) n hz (PapsIn.write hD f hs)
theorem PapsIn.write {D : Addr} {zs : List V} {o : HO} (hD : H D = some (.lst zs)) (f : ∀ l, N l → l ≠ D) : ∀ {vs : List V} {ps : List Pap}, PapsIn K N H vs ps → PapsIn K N (upd H D o) vs ps
  | _, _, .nil => .nil
  | _, _, .cons h hs => .cons (PapIn.write hD f h) (PapsIn.write hD f hs)
end
theorem PapsIn.len : ∀ {xs : List V} {ps : List Pap}, PapsIn K N H xs ps → xs.length = ps.length
  | _, _, .nil => rfl
  | _, _, .cons _ h => by simp [h.len]
theorem PapsIn.at : ∀ {xs : List V} {ps : List Pap}, PapsIn K N H xs ps → ∀ {i : Nat} {x : V}, xs[i]? = some x → ∃ p, ps[i]? = some p ∧ PapIn K N H x p
  | _, _, .nil, i, x, e => by simp at e
  | _, _, .cons h hs, 0, x, e => by cases e; exact ⟨_, rfl, h⟩
  | _, _, .cons h hs, i + 1, x, e => by simpa using hs.at (i := i) (by simpa using e)
theorem PapsIn.append : ∀ {xs ys : List V} {ps qs : List Pap}, PapsIn K N H xs ps → PapsIn K N H ys qs → PapsIn K N H (xs ++ ys) (ps ++ qs)
  | _, _, _, _, .nil, k => k
  | _, _, _, _, .cons h hs, k => .cons h (hs.append k)
theorem PapsIn.snoc {xs : List V} {ps : List Pap} {x : V} {p : Pap} (h : PapsIn K N H xs ps) (k : PapIn K N H x p) : PapsIn K N H (xs ++ [x]) (ps ++ [p]) := h.append (.cons k .nil)
end
abbrev anyL : Addr → Prop := fun _ => True
theorem PapIn.any {K : PySem.W.Frag} {N : Addr → Prop} {H : Hp} {v : V} {p : Pap} (h : PapIn K N H v p) : PapIn K anyL H v p := h.imp fun _ _ => trivial
mutual
def rightB (ws : List T3) (s r : Int) : Pap → Bool
  | .inn k => decide (0 ≤ k) && (decide (k < ws.length) && liesB (ws.getD k.toNat (1, 0, 1)) s r)
  | .par b ps => decide (2 ≤ b) && (decide ((ps.length : Int) = b) && rightsB ws s r b 0 ps)
def rightsB (ws : List T3) (s r b : Int) : Nat → List Pap → Bool
  | _, [] => true
  | c, p :: ps => rightB ws (s * b) (r + s * c) p && rightsB ws s r b (c + 1) ps
end
theorem rightsB_take {ws : List T3} {s r b : Int} : ∀ {ps : List Pap} {c i : Nat} {p : Pap}, ps[i]? = some p → rightsB ws s r b c (ps.take (i + 1)) = (rightsB ws s r b c (ps.take i) && rightB ws (s * b) (r + s * ((c + i : Nat) : Int)) p)
  | [], c, i, p, e => by simp at e
  | q :: ps, c, 0, p, e => by
    cases e
    simp [rightsB]
  | q :: ps, c, i + 1, p, e => by
    have e' : ps[i]? = some p := by simpa using e
    have ih := rightsB_take (ws := ws) (s := s) (r := r) (b := b) (c := c + 1) e'
    simp only [List.take_succ_cons, rightsB]
    rw [ih, Bool.and_assoc]
    have : c + 1 + i = c + (i + 1) := by omega
    rw [this]
theorem rightsB_false {ws : List T3} {s r b : Int} : ∀ {ps : List Pap} {c i : Nat} {p : Pap}, ps[i]? = some p → rightB ws (s * b) (r + s * ((c + i : Nat) : Int)) p = false → rightsB ws s r b c ps = false
  | [], c, i, p, e, _ => by simp at e
  | q :: ps, c, 0, p, e, h => by
    cases e
    simp only [rightsB]
    rw [show c + 0 = c from rfl] at h
    rw [h, Bool.false_and]
  | q :: ps, c, i + 1, p, e, h => by
    have e' : ps[i]? = some p := by simpa using e
    simp only [rightsB]
    have : c + (i + 1) = c + 1 + i := by omega
    rw [this] at h
    rw [rightsB_false e' h, Bool.and_false]
mutual
def Pap.kn : Pap → Nat
  | .inn _ => 1
  | .par _ ps => Pap.kns ps + 1
def Pap.kns : List Pap → Nat
  | [] => 0
  | p :: ps => p.kn + Pap.kns ps
end
mutual
def Pap.nm : Pap → List Int
  | .inn k => [k]
  | .par _ ps => Pap.nms ps
def Pap.nms : List Pap → List Int
  | [] => []
  | p :: ps => p.nm ++ Pap.nms ps
end
theorem Pap.kn_mem : ∀ {ps : List Pap} {p : Pap}, p ∈ ps → p.kn ≤ Pap.kns ps
  | q :: ps, p, h => by
    simp only [Pap.kns]
    rcases List.mem_cons.mp h with e | e
    · rw [e]; omega
    · have := Pap.kn_mem e; omega
mutual
theorem Pap.nm_len : ∀ p : Pap, p.nm.length ≤ p.kn
  | .inn _ => by simp [Pap.nm, Pap.kn]
  | .par _ ps => by
    have := Pap.nms_len ps
    simp only [Pap.nm, Pap.kn]
    omega
theorem Pap.nms_len : ∀ ps : List Pap, (Pap.nms ps).length ≤ Pap.kns ps
  | [] => by simp [Pap.nms]
  | p :: ps => by
    have h1 := p.nm_len
    have h2 := Pap.nms_len ps
    simp only [Pap.nms, Pap.kns, List.length_append]
    omega
end
theorem Pap.kns_take : ∀ {ps : List Pap} {i : Nat} {p : Pap}, ps[i]? = some p → Pap.kns (ps.take (i + 1)) = Pap.kns (ps.take i) + p.kn
  | [], i, p, e => by simp at e
  | q :: ps, 0, p, e => by cases e; simp [Pap.kns]
  | q :: ps, i + 1, p, e => by
    have := Pap.kns_take (ps := ps) (i := i) (by simpa using e)
    simp only [List.take_succ_cons, Pap.kns]
    omega
theorem Pap.nms_take : ∀ {ps : List Pap} {i : Nat} {p : Pap}, ps[i]? = some p → Pap.nms (ps.take (i + 1)) = Pap.nms (ps.take i) ++ p.nm
  | [], i, p, e => by simp at e
  | q :: ps, 0, p, e => by cases e; simp [Pap.nms]
  | q :: ps, i + 1, p, e => by
    have := Pap.nms_take (ps := ps) (i := i) (by simpa using e)
    simp only [List.take_succ_cons, Pap.nms, this, List.append_assoc]
theorem Pap.kns_append : ∀ (ps qs : List Pap), Pap.kns (ps ++ qs) = Pap.kns ps + Pap.kns qs
  | [], qs => by simp [Pap.kns]
  | p :: ps, qs => by simp only [List.cons_append, Pap.kns, Pap.kns_append ps qs]; omega
section
variable {K : PySem.W.Frag} {N : Addr → Prop} {H H' : Hp} {X : Addr} {zs : List V}
end
end L2
namespace L2
open PySem PySem.Spec PyProof.Rows
section
variable {X : Cx}
end
theorem tBM0_ap {K : PySem.W.Frag} {T : String} {r : V → List V → Hp → VK → Prop} {to : TE} {σ : St} {H : Hp} {Q : VK} : tBM0 K T r to σ H Q = to σ H fun x H1 => tyV K T x H1 ∧ r x [] H1 Q := rfl
end L2
namespace L2
open PySem PySem.Spec PyProof.Rows SM
def Wk (u : T3) : Prop := 1 ≤ u.1 ∧ 0 ≤ u.2.1 ∧ u.2.1 < u.1 ∧ 1 ≤ u.2.2 ∧ u.2.2 ≤ u.1
section
variable {K : PySem.W.Frag} {N : Addr → Prop} {H H' : Hp} {X Y : Addr} {xs ys : List V}
end
end L2
namespace L2
open PySem PySem.Spec PyProof.Rows SM
section
variable {K : PySem.W.Frag} {N : Addr → Prop} {H : Hp}
theorem PapsIn.take : ∀ {xs : List V} {ps : List Pap} (n : Nat), PapsIn K N H xs ps → PapsIn K N H (xs.take n) (ps.take n)
  | _, _, 0, h => by simp; exact .nil
  | _, _, n + 1, .nil => by simp; exact .nil
  | _, _, n + 1, .cons h hs => by simp only [List.take_succ_cons]; exact .cons h (hs.take n)
theorem PapsIn.drop : ∀ {xs : List V} {ps : List Pap} (n : Nat), PapsIn K N H xs ps → PapsIn K N H (xs.drop n) (ps.drop n)
  | _, _, 0, h => h
  | _, _, n + 1, .nil => by simp; exact .nil
  | _, _, n + 1, .cons h hs => by simp only [List.drop_succ_cons]; exact hs.drop n
end
mutual
def Pap.pd : Pap → PyData
  | .inn k => .tuple [.str "in", .int k]
  | .par b ps => .tuple [.str "parted", .int b, .list (Pap.pds ps)]
def Pap.pds : List Pap → List PyData
  | [] => []
  | p :: ps => p.pd :: Pap.pds ps
end
mutual
theorem PapIn.dd {K : PySem.W.Frag} {N : Addr → Prop} {H : Hp} : ∀ {v : V} {p : Pap}, PapIn K N H v p → DD K H v p.pd
  | _, _, .inn h => by
    simp only [Pap.pd]
    exact .tup (SqT.of h) (.cons (.str _) (.cons (.int _) .nil))
  | _, _, .par h hl _ _ hs => by
    simp only [Pap.pd]
    exact .tup (SqT.of h) (.cons (.str _) (.cons (.int _) (.cons (.lst (SqL.of hl) (PapsIn.dds hs)) .nil)))
theorem PapsIn.dds {K : PySem.W.Frag} {N : Addr → Prop} {H : Hp} : ∀ {vs : List V} {ps : List Pap}, PapsIn K N H vs ps → DDs K H vs (Pap.pds ps)
  | _, _, .nil => by simp only [Pap.pds]; exact .nil
  | _, _, .cons h hs => by simp only [Pap.pds]; exact .cons (PapIn.dd h) (PapsIn.dds hs)
end
end L2
namespace L2
open PySem PySem.Spec PyProof.Rows

theorem ObjOk.there {P : Program} {w : World} {H : Hp} {h : Heap} {a : Addr} : ∀ {o : HO}, ObjOk P w H h a o → ∃ u, h.get? a = some u := fun {o} x => by
  induction o with
  | lst xs => obtain ⟨_, _, _, _, e⟩ := x; exact ⟨_, e⟩
  | tup xs => obtain ⟨_, _, _, p⟩ := x; obtain ⟨u, hu, _⟩ := p; exact ⟨u, hu⟩
  | dK kvs => obtain ⟨_, _, _, _, o, _, _, e, _⟩ := x; exact ⟨_, e⟩
  | dT kvs => obtain ⟨_, _, _, _, o, _, _, e, _⟩ := x; exact ⟨_, e⟩
  | set S n => obtain ⟨o, _, _, _, e, _⟩ := x; exact ⟨_, e⟩
  | ins C dx fs => obtain ⟨_, _, _, e, _⟩ := x; exact ⟨_, e⟩
  | own y => obtain ⟨_, e⟩ := x; exact ⟨_, e⟩
  | xd fs => obtain ⟨_, ⟨_, _, _, e, _⟩, _⟩ := x; exact ⟨_, e⟩
  | rng lo hi => obtain ⟨_, _, _, e⟩ := x; exact ⟨_, e⟩
  | frz o u _ => exact ⟨_, x.1⟩
  | tbl ps => exact ⟨_, x⟩
  | met f y => exact ⟨_, x⟩
  | ext φ => exact x.2.1

structure Fly (h₀ : Heap) (H : Hp) (h : Heap) (e : Addr) (cls : Value) : Prop where
  new : h₀.get? e = none
  free : H e = none
  obj : ∃ oe vs T oT ts a0, h.get? e = some oe ∧ (oe.cls = cls ∧ vs[0]? = some a0) ∧ oe.data = .fields vs ∧ vs[1]? = some (.ref T) ∧ T ≠ e ∧ h.get? T = some oT ∧ oT.data = .fields ts ∧ ts[3]? = some .none ∧
    h₀.get? T = none ∧ H T = none

def CXx (P : Program) (w : World) : CXT := fun outer H s E e s' =>
  ∃ a cls H', e = .ref a ∧ s'.os = s.os ∧ AllBare s'.gens ∧ Un (frs outer) [] H H' s.heap s'.heap ∧ HOk P w H' s'.heap ∧ Fly s.heap H' s'.heap a cls ∧ E cls (some a) H'

theorem HOk.but {P : Program} {w : World} {H : Hp} {h h' : Heap} (hok : HOk P w H h) (as : List Addr) (hn : ∀ a ∈ as, H a = none) (k : ∀ b o, b ∉ as → h.get? b = some o → h'.get? b = some o) : HOk P w H h' := fun b u e => by
  refine (hok b u e).stay (fun c v hc q => k c v (fun z => ?_) q) (fun _ q => q) fun _ _ q => q
  rcases hc with rfl | hc
  · rw [hn _ z] at e; cases e
  · rw [hn _ z] at hc; cases hc

section
variable {P : Program} {w : World} {K : PySem.W.Frag} {mg : Str → Option Value} {base : Heap} {N : List Str} {qual : Str} {scope : Scope} {f : Addr} {cd : Value} {A : Around} {outer : List Env} {s : Shared} {H H1 : Hp} {E : XK}
  {pins : List (Addr × Obj)} {σ : St} {s1 : Shared} {e : Addr} {cls : Value}

theorem left_fly {B : Heap} {a0 : Value} {h h' : Heap} {as : List Addr} {stk : List Env} (hB : B = PySem.W.hideAll h (frs stk ++ as)) (has : ∀ a ∈ as, s.heap.get? a = none ∧ H1 a = none) (hea : e ∈ as)
    (hfs : ∀ b ∈ frs stk, H1 b = none) (hsub : ∀ b ∈ frs outer, b ∈ frs stk) (hnew : ∀ b ∈ frs stk, b ∉ frs outer → s.heap.get? b = none)
    (u : Un (frs outer) [] H H1 s.heap h) (hok : HOk P w H1 h) (L : Heap.LeftW B stk e cls a0 h h') (hF : h.FunFrames base stk) : Un (frs outer) [] H H1 s.heap h' ∧ HOk P w H1 h' ∧ Fly s.heap H1 h' e cls := by
  subst hB
  obtain ⟨k1, k2, ⟨oe, vs, T, oT, ts, he, hc, hd, h1, hnT, hTe, hT, hdT, h3⟩, k4⟩ := L
  have keep : ∀ b o, b ∉ frs stk ++ as → h.get? b = some o → h'.get? b = some o := fun b o hb q => k1 b o (PySem.W.hideAll_get _ q hb)
  have hall : ∀ a ∈ frs stk ++ as, H1 a = none := fun a ha => (List.mem_append.mp ha).elim (hfs a) fun z => (has a z).2
  have newAs : ∀ {b : Addr} {o : Obj}, s.heap.get? b = some o → b ∉ as := fun {b o} q z => by rw [(has b z).1] at q; cases q
  have hTf : T ∉ frs stk := fun z => by
    obtain ⟨_, o, ho, hx⟩ := k2.mem z
    rw [hT] at ho; cases ho; exact hx _ hdT
  have out : ∀ o, h.get? T = some o → T ∈ as := fun o q => by
    by_cases z : T ∈ frs stk ++ as
    · exact (List.mem_append.mp z).elim (fun y => absurd y hTf) id
    · have := PySem.W.hideAll_get (h := h) _ q z
      rw [hnT] at this; cases this
  have slot : ∀ b o, h.get? b = some o → b ∈ frs stk → ∃ sl, h'.get? b = some { o with slots := sl } := fun b o q hb => by
    obtain ⟨_, o', ho', hx⟩ := hF.mem hb
    rw [q] at ho'; cases ho'
    exact k4 b o q hx
  refine ⟨⟨fun b o q n hb hx => ?_, fun b o q n hb hx => ?_, u.free, fun b o q hx => ?_, u.tups, u.frzs, u.tbls⟩, hok.but _ hall keep, ⟨(has e hea).1, (has e hea).2, oe, vs, T, oT, ts, a0, he, hc, hd, h1, hTe, hT, hdT, h3, ?_, ?_⟩⟩
  · refine keep b o (fun z => (List.mem_append.mp z).elim (fun y => ?_) (newAs q)) (u.keep b o q n hb hx)
    by_cases hb' : b ∈ frs outer
    · exact hb hb'
    · rw [hnew b y hb'] at q; cases q
  · obtain ⟨sl, e1⟩ := u.slot b o q n hb hx
    obtain ⟨sl', e2⟩ := slot b _ e1 (hsub b hb)
    exact ⟨sl', e2⟩
  · obtain ⟨o', e1⟩ := u.there b o q hx
    by_cases z : b ∈ frs stk
    · obtain ⟨sl, e2⟩ := slot b _ e1 z
      exact ⟨_, e2⟩
    · exact ⟨o', keep b o' (fun y => (List.mem_append.mp y).elim z (newAs q)) e1⟩
  · cases q : s.heap.get? T with
    | none => rfl
    | some o =>
      obtain ⟨o', e1⟩ := u.there T o q (by simp)
      exact absurd (out o' e1) (newAs q)
  · cases q : H1 T with
    | none => rfl
    | some o =>
      obtain ⟨o', e1⟩ := ObjOk.there (hok T o q)
      rw [(has T (out o' e1)).2] at q; cases q

theorem thrown_made {h' : Heap} {vs : List Value} (I : Inv (cxOf (CXx P w) P w K mg base N qual scope f cd A outer s H E) pins σ H1 s1) (hx : Heap.MadeExcOf s1.heap h' e cls vs) (q : E cls (some e) H1) :
    (cxOf (CXx P w) P w K mg base N qual scope f cd A outer s H E).xe (.ref e) { s1 with heap := h' } := by
  have hok : HOk P w H1 h' := I.hok.kept hx.keeps
  have he1 : H1 e = none := by
    cases z : H1 e with
    | none => rfl
    | some o =>
      obtain ⟨o', e1⟩ := ObjOk.there (I.hok e o z)
      rw [hx.new] at e1; cases e1
  have hes : s.heap.get? e = none := by
    cases z : s.heap.get? e with
    | none => rfl
    | some o =>
      obtain ⟨o', e1⟩ := I.base.there e o z (List.not_mem_nil)
      rw [hx.new] at e1; cases e1
  have hu : Un (frs outer) [] H H1 s.heap h' := Un.trans I.base (Un.kept hx.keeps)
  have hF : h'.FunFrames base (envOfC qual scope s.heap.objs.size f cd :: outer) := Heap.FunFrames.of_keeps (fun b o z _ => ⟨o, hx.keeps b o z, rfl⟩) I.stack
  have hnw : ∀ b ∈ frs (envOfC qual scope s.heap.objs.size f cd :: outer), b ∉ frs outer → s.heap.get? b = none := fun b hb hn => by
    rcases List.mem_cons.mp hb with rfl | hb
    · exact Heap.get?_none_of_le (Nat.le_refl _)
    · exact absurd hb hn
  obtain ⟨t, he, _, _⟩ := hx.there
  refine wpAny_leaving_firstW (base := PySem.W.hideAll h' (frs (envOfC qual scope s.heap.objs.size f cd :: outer) ++ [e])) (outer := outer) (L := s.heap.objs.size) (a0 := .ref t) I.ok.frames
    (PySem.W.funFrames_hide hF fun env z a ha => List.mem_append_left _ (List.mem_filterMap.mpr ⟨env, z, ha⟩)) rfl he (fun b o z => PySem.W.of_hideAll _ z) (PySem.W.hideAll_none _ (by simp)) rfl rfl rfl fun h2 L => ?_
  obtain ⟨x1, x2, x3⟩ := left_fly (P := P) (w := w) (base := base) (outer := outer) (s := s) (H := H) (H1 := H1) (as := [e]) rfl (fun a ha => by rw [List.mem_singleton.mp ha]; exact ⟨hes, he1⟩) (by simp) I.stkFree (fun b hb => List.mem_cons_of_mem _ hb) hnw hu hok L hF
  exact ⟨e, cls, H1, rfl, I.os, I.bare, x1, x2, x3, q⟩

theorem thrown_on (I : Inv (cxOf (CXx P w) P w K mg base N qual scope f cd A outer s H E) pins σ H1 s1) (fl : Fly s.heap H1 s1.heap e cls) (q : E cls (some e) H1) :
    (cxOf (CXx P w) P w K mg base N qual scope f cd A outer s H E).xe (.ref e) s1 := by
  obtain ⟨oe, vs, T, oT, ts, a0, he, hc, hd, h1, hTe, hT, hdT, h3, hsT, hHT⟩ := fl.obj
  have hF : s1.heap.FunFrames base (envOfC qual scope s.heap.objs.size f cd :: outer) := I.stack
  have hnw : ∀ b ∈ frs (envOfC qual scope s.heap.objs.size f cd :: outer), b ∉ frs outer → s.heap.get? b = none := fun b hb hn => by
    rcases List.mem_cons.mp hb with rfl | hb
    · exact Heap.get?_none_of_le (Nat.le_refl _)
    · exact absurd hb hn
  have has : ∀ a ∈ [e, T], s.heap.get? a = none ∧ H1 a = none := fun a ha => by
    rcases List.mem_cons.mp ha with rfl | ha
    · exact ⟨fl.new, fl.free⟩
    · rw [List.mem_singleton.mp ha]; exact ⟨hsT, hHT⟩
  refine wpAny_leaving_nextW (base := PySem.W.hideAll s1.heap (frs (envOfC qual scope s.heap.objs.size f cd :: outer) ++ [e, T])) (outer := outer) (L := s.heap.objs.size) (cls := cls) (a0 := a0) I.ok.frames
    (PySem.W.funFrames_hide hF fun env z a ha => List.mem_append_left _ (List.mem_filterMap.mpr ⟨env, z, ha⟩)) rfl ⟨oe, vs, T, oT, ts, he, hc, hd, h1, PySem.W.hideAll_none _ (by simp), hTe, hT, hdT, h3⟩
    (fun b o z => PySem.W.of_hideAll _ z) (PySem.W.hideAll_none _ (by simp)) fun h2 L => ?_
  obtain ⟨x1, x2, x3⟩ := left_fly (P := P) (w := w) (base := base) (outer := outer) (s := s) (H := H) (H1 := H1) (as := [e, T]) rfl has (by simp) I.stkFree (fun b hb => List.mem_cons_of_mem _ hb) hnw I.base I.hok L hF
  exact ⟨e, cls, H1, rfl, I.os, I.bare, x1, x2, x3, q⟩
end

theorem Inv.afterX {X : Cx} {pins : List (Addr × Obj)} {σ : St} {H : Hp} {s s' : Shared} {E : XK} {e : Value} (I : Inv X pins σ H s) (h : CXx X.prog X.w X.stack H s E e s') :
    ∃ a cls H', e = .ref a ∧ Inv X pins σ H' s' ∧ Fly s.heap H' s'.heap a cls ∧ E cls (some a) H' := by
  obtain ⟨a, cls, H', rfl, os, bare, un, hok, fl, q⟩ := h
  exact ⟨a, cls, H', rfl, I.call' (ch := []) os un hok bare (fun b z => absurd z (by simp)), fl, q⟩
theorem Fly.old {h₀ h1 h : Heap} {H : Hp} {e : Addr} {cls : Value} (x : Fly h1 H h e cls) (k : ∀ b o, h₀.get? b = some o → ∃ o', h1.get? b = some o') : Fly h₀ H h e cls := by
  have none : ∀ b, h1.get? b = none → h₀.get? b = none := fun b z => by
    cases q : h₀.get? b with
    | none => rfl
    | some o => obtain ⟨o', e1⟩ := k b o q; rw [z] at e1; cases e1
  obtain ⟨oe, vs, T, oT, ts, a0, he, hc, hd, h1, hTe, hT, hdT, h3, hsT, hHT⟩ := x.obj
  exact ⟨none _ x.new, x.free, oe, vs, T, oT, ts, a0, he, hc, hd, h1, hTe, hT, hdT, h3, none _ hsT, hHT⟩

theorem passX {P : Program} {w : World} {K : PySem.W.Frag} {mg : Str → Option Value} {base : Heap} {N : List Str} {qual : Str} {scope : Scope} {f : Addr} {cd : Value} {A : Around} {outer : List Env} {s : Shared} {H : Hp} {E : XK} :
    Passes (CXx P w) (cxOf (CXx P w) P w K mg base N qual scope f cd A outer s H E) E := fun pins σ H1 s1 e s' I h => by
  obtain ⟨a, cls, H', rfl, I', fl, q⟩ := Inv.afterX I h
  exact thrown_on I' (fl.old fun b o z => I.base.there b o z List.not_mem_nil) q
end L2
namespace L2
open PySem PySem.Spec PyProof.Rows

abbrev VE : List Value := [.type "ValueError", .type "Exception", .type "BaseException", .type "object"]
structure OX (K : PySem.W.Frag) (mg : Str → Option Value) (x : Str) (C : Addr) (bm : List Value) : Prop where
  bound : mg x = some (.ref C)
  obj : ∃ N nm q bs hdct sn sub ab col dd k0 k1 k2 k3 k5, K.lookup C = some (excClassObj nm q C N bs bm hdct sn sub ab col dd k0 k1 k2 k3 k5 "ValueError.__new__") ∧ PySem.W.nsOkIn K N = true ∧ PySem.W.nsIn K N "__init__" = some none
  tail : PySem.W.tailIn K VE bm = true
theorem ox_mk {K : PySem.W.Frag} {h : Heap} {mg : Str → Option Value} {x : Str} {C N : Addr} {nm q : Str} {bs bm : List Value} {hdct : Bool} {sn : List Str} {sub : List Value} {ab : Bool} {col : Option Bool} {dd : Option Addr} {k0 k1 k2 k3 k5 : Option Value}
    (X : K.In h) (G : h.Ns mainGlobals mg) (a : PySem.W.nsIn K mainGlobals x = some (some (.ref C))) (l : K.lookup C = some (excClassObj nm q C N bs bm hdct sn sub ab col dd k0 k1 k2 k3 k5 "ValueError.__new__"))
    (e : PySem.W.excIn K C VE "ValueError.__new__" = true) : OX K mg x C bm := by
  unfold PySem.W.excIn at e
  rw [l] at e
  simp only [Bool.and_eq_true, beq_iff_eq, Bool.not_eq_true'] at e
  obtain ⟨⟨⟨⟨⟨_, _⟩, _⟩, ht⟩, hok⟩, hni⟩ := e
  exact ⟨PySem.W.mg_of X G a, ⟨N, nm, q, bs, hdct, sn, sub, ab, col, dd, k0, k1, k2, k3, k5, l, hok, hni⟩, ht⟩

def Throws (X : Cx) (E : XK) : Prop := ∀ (pins : List (Addr × Obj)) (σ : St) (H : Hp) (s : Shared) (e : Addr) (cls : Value) (vs : List Value) (h' : Heap), Inv X pins σ H s → Heap.MadeExcOf s.heap h' e cls vs → E cls (some e) H → X.xe (.ref e) { s with heap := h' }
theorem throwX {P : Program} {w : World} {K : PySem.W.Frag} {mg : Str → Option Value} {base : Heap} {N : List Str} {qual : Str} {scope : Scope} {f : Addr} {cd : Value} {A : Around} {outer : List Env} {s : Shared} {H : Hp} {E : XK} :
    Throws (cxOf (CXx P w) P w K mg base N qual scope f cd A outer s H E) E := fun _ _ _ _ _ _ _ _ I hx q => thrown_made I hx q

def tRaise (C : Addr) (E : XK) (t : TA) : TS := fun _ σ H => t σ H fun vs H1 => vs.length ≤ 1000 ∧ ∀ a, H1 a = none → E (.ref C) (some a) H1
theorem ps_raise {X : Cx} {x : Str} {C : Addr} {bm : List Value} {np cpos pos : Pos} {e₀ : Expr} {rest : List Expr} {t : TA} {E : XK} (O : OX X.K X.mg x C bm) (hc : X.calm = true) (T : Throws X E) (ha : PA X (e₀ :: rest) t) (hg : Gl X x := by rfl)
    (hdb : (x == ("__debug__" : Str)) = false := by decide) (he : starEach (e₀ :: rest) X.env = (false, eval e₀ X.env) :: starEach rest X.env := by rfl) (hpl : (backTo cpos (starEach rest X.env)).any (·.1) = false := by rfl) :
    PS X (.Raise (some (.Call (.Name x np) (e₀ :: rest) [] cpos)) none pos) (tRaise C E t) := by
  intro pins s σ H D I h
  obtain ⟨N, nm, q, bs, hdct, sn, sub, ab, col, dd, k0, k1, k2, k3, k5, lk, hok, hni⟩ := O.obj
  have KB : X.K.In X.base := I.mod.kin
  refine wpAny_Raise_call_subT (C := C) (nm := nm) (q := q) (N := N) (bs := bs) (bm := bm) (hdct := hdct) (sn := sn) (sub := sub) (ab := ab) (col := col) (dd := dd) (k0 := k0) (k1 := k1) (k2 := k2) (k3 := k3) (k5 := k5)
    PySem.F.excBase_ValueError (mN := X.base.nsMap N) ((PySem.W.tail_of_in I.kIn O.tail).hasType rfl) (I.ok.hd hc) (by rw [he]; show (false || (backTo cpos (starEach rest X.env)).any (·.1)) = false; rw [hpl]; rfl) (PySem.W.nsMap_none_of_in KB hok hni) (ld_glob I hg O.bound ⟨rfl, ?_⟩ hdb)
  have h1 := ha cpos pins s σ H _ I h
  rw [he] at h1 ⊢
  refine Calls.evalArgs_plain (wpAny_mono h1 (fun us s₂ ⟨vs, H1, I1, r, hl, q⟩ => ⟨rfl, ?_, I1.kIn _ _ lk, ?_, PySem.W.tail_of_in I1.kIn O.tail, fun h' e hm => ?_⟩) fun _ _ y => y)
  · rw [← r.length]; exact Nat.le_of_lt (small1000 hl)
  · exact (Heap.Ns.of_isNs (PySem.W.isNs_of_in KB hok)).keeps I1.bk
  · refine T pins σ H1 s₂ e _ _ h' I1 hm (q e ?_)
    cases z : H1 e with
    | none => rfl
    | some o =>
      obtain ⟨o', e1⟩ := ObjOk.there (I1.hok e o z)
      rw [hm.new] at e1; cases e1

theorem own_cx {P : Program} {w : World} {CX : CXT} {K : PySem.W.Frag} {mg : Str → Option Value} {base : Heap} {N : List Str} {qual : Str} {scope : Scope} {f : Addr} {cd : Value} {A : Around} {outer : List Env} {s : Shared} {H : Hp} {E : XK} :
    PassesOwn (model P w) (cxOf CX P w K mg base N qual scope f cd A outer s H E).A (cxOf CX P w K mg base N qual scope f cd A outer s H E).env (cxOf CX P w K mg base N qual scope f cd A outer s H E).xe :=
  fun _ _ h => wpAny_leaving_again (SameStack.refl _) h

def HasX (P : Program) (w : World) (K : PySem.W.Frag) (mg : Str → Option Value) (base : Heap) (k : Nat) (x : Str) (ps : List Str) (sp : Sp) : Prop :=
  ∃ f fd, FnOk P w K mg base (CXx P w) k f fd ps sp ∧ (∀ us : List Value, us.length = ps.length → bindArgs fd ⟨us, []⟩ = pure (ps.zip us)) ∧ PySem.W.keepIn K (.ref f) = true ∧ mg x = some (.ref f)
theorem HasX.mono {P : Program} {w : World} {K : PySem.W.Frag} {mg : Str → Option Value} {base : Heap} {j k : Nat} {x : Str} {ps : List Str} {sp : Sp} (h : HasX P w K mg base j x ps sp) (hk : j ≤ k) : HasX P w K mg base k x ps sp :=
  let ⟨f, fd, F, b⟩ := h
  ⟨f, fd, F.mono hk, b⟩
theorem HasX.imp {P : Program} {w : World} {K : PySem.W.Frag} {mg : Str → Option Value} {base : Heap} {k : Nat} {x : Str} {ps : List Str} {sp sp' : Sp} (h : HasX P w K mg base k x ps sp) (i : ∀ vs H Q E, sp' vs H Q E → sp vs H Q E) : HasX P w K mg base k x ps sp' :=
  let ⟨f, fd, F, b⟩ := h
  ⟨f, fd, F.imp i, b⟩
theorem TF.hasX {P : Program} {w : World} {K : PySem.W.Frag} {mg : Str → Option Value} {base : Heap} {x : Str} {st : Stmt} {N ps : List Str} {k : Nat} {sp : Sp} (T : TF K mg x st) (S : FnScope N ps (defScope st))
    (hb : ∀ (kV doc pm : Value) (an : Option Addr) (cdv ct : Value) (us : List Value), us.length = ps.length → bindArgs (PySem.W.fnOf x x (defArgs st) (defBody st) (defScope st) .none kV doc pm an cdv ct) ⟨us, []⟩ = pure (ps.zip us))
    (len : ∀ vs H Q E, sp vs H Q E → vs.length = ps.length)
    (hbody : ∀ (f : Addr) (cdv : Value) (A : Around) (outer : List Env) (s : Shared) (H : Hp) (vs : List V) (Q : VK) (E : XK), Room k (A.deeper (envOfC x (defScope st) s.heap.objs.size f cdv)) → sp vs H Q E →
      ∃ t, PSs (cxOf (CXx P w) P w K mg base N x (defScope st) f cdv A outer s H E) (defBody st) t ∧ t { nx := fun _ H' => Q .non H', rt := Q } (start N vs) H) : HasX P w K mg base (k + 1) x ps sp := by
  obtain ⟨f, fd, F, m⟩ := T
  obtain ⟨oc, od, kV, doc, pm, an, cdv, ct, osl, rfl, lk, hcd⟩ := F.ex
  exact ⟨f, _, fn_of lk hcd S len fun A outer s H vs Q E hr hsp => hbody f cdv A outer s H vs Q E hr hsp, hb kV doc pm an cdv ct, F.kp, m⟩
theorem pe_defX {X : Cx} {k : Nat} {x : Str} {ps : List Str} {sp : Sp} {p pos : Pos} {e : Expr} {es : List Expr} {t : TA} {E : XK} (h : HasX X.prog X.w X.K X.mg X.base k x ps sp) (hr : Room k X.A) (hx : Passes (CXx X.prog X.w) X E) (ha : PA X (e :: es) t) (hg : Gl X x := by rfl)
    (hdb : (x == ("__debug__" : Str)) = false := by decide) (he : starEach (e :: es) X.env = (false, eval e X.env) :: starEach es X.env := by rfl) (hpl : (backTo pos (starEach es X.env)).any (·.1) = false := by rfl) :
    PE X (.Call (.Name x p) (e :: es) [] pos) (tCall sp [] E t) := by
  obtain ⟨f, fd, F, hb, hk, hm⟩ := h
  exact pe_call F hr hg hm hk (.all hb) .nil hx ha hdb he hpl
end L2
namespace L2
open PySem PySem.Spec PyProof.Rows

section
variable {X : Cx} {pins : List (Addr × Obj)} {σ : St} {H : Hp} {s : Shared}
def Ap (X : Cx) (pins : List (Addr × Obj)) (b : Addr) : Prop := X.s₀.heap.get? b = none ∧ b ≠ X.env.locals ∧ (∀ x c, X.env.cells.lookup x = some c → c ≠ b) ∧ b ∉ X.fs ∧ ∀ p ∈ X.pn ++ pins, p.1 ≠ b
theorem Inv.ap (I : Inv X pins σ H s) (hx : X.ex = []) {b : Addr} (hb : s.heap.get? b = none) : Ap X pins b := by
  have no : ∀ {c : Addr}, (∃ o, s.heap.get? c = some o) → c ≠ b := fun {c} ⟨o, e⟩ z => by rw [z, hb] at e; cases e
  refine ⟨?_, (no (let ⟨_, ⟨o, _, _, e, _⟩, _⟩ := I.loc; ⟨o, e⟩)).symm, fun x c e => no (let ⟨_, o, q, _⟩ := I.cell x c e; ⟨o, q⟩), fun z => no (let ⟨_, o, e, _⟩ := I.funs.mem z; ⟨o, e⟩) rfl, fun p hp => no ⟨_, (I.pin p hp).1⟩⟩
  cases q : X.s₀.heap.get? b with
  | none => rfl
  | some o => exact absurd rfl (no (I.base.there b o q (by rw [hx]; simp)))
theorem Inv.exs {as : List Addr} (I : Inv X pins σ H s) (has : ∀ a ∈ as, Ap X pins a) : Inv { X with ex := X.ex ++ as } pins σ H s := by
  have ok := I.ok
  refine ⟨⟨ok.mod, ok.kind, ok.glob, ok.blt, ok.above, ok.inj, ok.has, ok.cab, ok.hd, ok.frames, ok.stk, fun b hb => ?_, ok.bs, ok.bsz, fun b o e hb => ?_, fun b hb => ?_, ok.funs, ok.frf⟩, I.os, I.bare,
    I.base.mono (fun _ h => h) (fun b hb => List.mem_append_left _ hb), I.loc, I.cell, I.free, I.freeC, I.pin, I.hok, I.len⟩
  · exact (List.mem_append.mp hb).elim (ok.exf b) fun z => ⟨(has b z).2.1, (has b z).2.2.1⟩
  · refine (List.mem_append.mp hb).elim (ok.noex b o e) fun z => ?_
    have := (ok.bs b o e).1
    rw [(has b z).1] at this; cases this
  · exact (List.mem_append.mp hb).elim (ok.exfs b) fun z => (has b z).2.2.2.1
theorem Inv.unexs {as : List Addr} (I : Inv { X with ex := X.ex ++ as } pins σ H s) (ok : X.Ok) (has : ∀ a ∈ as, X.s₀.heap.get? a = none) : Inv X pins σ H s := by
  have ne : ∀ b o, X.s₀.heap.get? b = some o → b ∉ X.ex → b ∉ X.ex ++ as := fun b o e hx hb => (List.mem_append.mp hb).elim hx fun z => by rw [has b z] at e; cases e
  exact ⟨ok, I.os, I.bare, ⟨fun b o e n hb hx => I.base.keep b o e n hb (ne b o e hx), fun b o e n hb hx => I.base.slot b o e n hb (ne b o e hx), fun b o e n hx => I.base.free b o e n (ne b o e hx), fun b o e hx => I.base.there b o e (ne b o e hx),
    I.base.tups, I.base.frzs, I.base.tbls⟩, I.loc, I.cell, I.free, I.freeC, I.pin, I.hok, I.len⟩

theorem Inv.fly {as : List Addr} {h' : Heap} (I : Inv X pins σ H s) (has : ∀ a ∈ as, Ap X pins a ∧ H a = none)
    (keep : ∀ b o, b ∉ frs X.stack ++ as → s.heap.get? b = some o → h'.get? b = some o) (slot : ∀ b o, b ∈ frs X.stack → s.heap.get? b = some o → ∃ sl, h'.get? b = some { o with slots := sl }) : Inv X pins σ H { s with heap := h' } := by
  have u : Un (frs X.stack) as H H s.heap h' := ⟨fun b o q _ hb hx => keep b o (fun z => (List.mem_append.mp z).elim hb hx) q, fun b o q _ hb _ => slot b o hb q, fun _ _ _ n _ => n, fun b o q hx => by
      by_cases hb : b ∈ frs X.stack
      · obtain ⟨sl, e⟩ := slot b o hb q; exact ⟨_, e⟩
      · exact ⟨o, keep b o (fun z => (List.mem_append.mp z).elim hb hx) q⟩, fun _ _ e => e, fun _ _ _ e => e, fun _ ps e => ⟨#[], by rw [e]; simp⟩⟩
  have hok : HOk X.prog X.w H h' := I.hok.but _ (fun a z => (List.mem_append.mp z).elim (I.stkFree a) fun y => (has a y).2) keep
  have J := (I.exs fun a z => (has a z).1).call (g' := s.gens) (t' := s.toks) (d' := s.drawn) (ch := as) u hok I.bare fun b hb => ⟨.inl (List.mem_append_right _ hb), (has b hb).1.2.1, (has b hb).1.2.2.1, (has b hb).1.2.2.2.2⟩
  exact J.unexs I.ok fun a z => (has a z).1.1

def FlyAt (X : Cx) (pins : List (Addr × Obj)) (H : Hp) (h : Heap) (a : Addr) (cls : Value) : Prop :=
  ∃ oe vs T oT ts a0, h.get? a = some oe ∧ (oe.cls = cls ∧ vs[0]? = some a0) ∧ oe.data = .fields vs ∧ vs[1]? = some (.ref T) ∧ T ≠ a ∧ h.get? T = some oT ∧ oT.data = .fields ts ∧ ts[3]? = some .none ∧ ∀ b ∈ [a, T], Ap X pins b ∧ H b = none
def XE (X : Cx) (pins : List (Addr × Obj)) (σ : St) (E : XK) (e : Value) (s' : Shared) : Prop := ∃ a cls H', e = .ref a ∧ Inv X pins σ H' s' ∧ FlyAt X pins H' s'.heap a cls ∧ E cls (some a) H'
theorem Inv.afterXE {s' : Shared} {E : XK} {e : Value} (hx : X.ex = []) (I : Inv X pins σ H s) (h : CXx X.prog X.w X.stack H s E e s') : XE X pins σ E e s' := by
  obtain ⟨a, cls, H', rfl, I', fl, q⟩ := Inv.afterX I h
  obtain ⟨oe, vs, T, oT, ts, a0, he, hc, hd, hv1, hTe, hT, hdT, h3, hsT, hHT⟩ := fl.obj
  refine ⟨a, cls, H', rfl, I', ⟨oe, vs, T, oT, ts, a0, he, hc, hd, hv1, hTe, hT, hdT, h3, fun b hb => ?_⟩, q⟩
  rcases List.mem_cons.mp hb with rfl | hb
  · exact ⟨I.ap hx fl.new, fl.free⟩
  · rw [List.mem_singleton.mp hb]; exact ⟨I.ap hx hsT, hHT⟩

theorem FlyAt.held {a T : Addr} {cls a0 : Value} {h5 : Heap} (hx : X.ex = []) (I : Inv X pins σ H s) (has : ∀ b ∈ [a, T], Ap X pins b ∧ H b = none)
    (hfl : Heap.FlyingW (PySem.W.hideAll s.heap (frs X.stack ++ [a, T])) X.stack a cls a0 h5) (sm : s.heap.UpToSlots h5) : Inv X pins σ H { s with heap := h5 } ∧ FlyAt X pins H h5 a cls := by
  have keep : ∀ b o, b ∉ frs X.stack ++ [a, T] → s.heap.get? b = some o → h5.get? b = some o := fun b o hb q => hfl.1 b o (PySem.W.hideAll_get _ q hb)
  have slot : ∀ b o, b ∈ frs X.stack → s.heap.get? b = some o → ∃ sl, h5.get? b = some { o with slots := sl } := fun b o hb q => by
    obtain ⟨_, o', ho', hn⟩ := I.stack.mem hb
    rw [q] at ho'; cases ho'
    exact sm b o q hn
  have I' := I.fly (as := [a, T]) has keep slot
  obtain ⟨_, _, k2, oe, vs, T', oT, ts, he, hc, hd, hv1, hnT, hTe, hT, hdT, h3⟩ := hfl
  have hTf : T' ∉ frs X.stack := fun z => by
    obtain ⟨_, o, ho, hn⟩ := k2.mem z
    rw [hT] at ho; cases ho; exact hn _ hdT
  have hT' : Ap X pins T' ∧ H T' = none := by
    cases q : s.heap.get? T' with
    | none =>
      refine ⟨I.ap hx q, ?_⟩
      cases z : H T' with
      | none => rfl
      | some o =>
        obtain ⟨o', e⟩ := ObjOk.there (I.hok T' o z)
        rw [q] at e; cases e
    | some o =>
      refine has T' ?_
      by_cases z : T' ∈ frs X.stack ++ [a, T]
      · exact (List.mem_append.mp z).elim (fun y => absurd y hTf) id
      · have := PySem.W.hideAll_get (h := s.heap) _ q z
        rw [hnT] at this; cases this
  refine ⟨I', oe, vs, T', oT, ts, a0, he, hc, hd, hv1, hTe, hT, hdT, h3, fun b hb => ?_⟩
  rcases List.mem_cons.mp hb with rfl | hb
  · exact has _ (by simp)
  · rw [List.mem_singleton.mp hb]; exact hT'

theorem seen {M : Model} {a : Addr} {cls : Value} {Q : Shared → Prop} {A' : Around} {E1 E2 : Value → Shared → Prop} (hx : X.ex = []) (hst : X.stack = X.env :: X.outer) (hf : X.env.frame = some X.env.locals) (I : Inv X pins σ H s) (fl : FlyAt X pins H s.heap a cls)
    (h : ∀ h5, Inv X pins σ H { s with heap := h5 } → FlyAt X pins H h5 a cls → Q { s with heap := h5 }) :
    wpAny M X.A (noteFrame (.ref a) X.env) (fun _ s2 => wpAny M A' (setFlight (.ref a) none) (fun _ s3 => Q s3) E1 s2) E2 s := by
  obtain ⟨oe, vs, T, oT, ts, a0, he, hc, hd, hv1, hTe, hT, hdT, h3, has⟩ := fl
  have hFB : s.heap.FunFrames (PySem.W.hideAll s.heap (frs X.stack ++ [a, T])) X.stack := PySem.W.funFrames_hide I.stack fun env z b hb => List.mem_append_left _ (List.mem_filterMap.mpr ⟨env, z, hb⟩)
  have hfl : Heap.FlyingW (PySem.W.hideAll s.heap (frs X.stack ++ [a, T])) X.stack a cls a0 s.heap :=
    ⟨fun b o z => PySem.W.of_hideAll _ z, PySem.W.hideAll_none _ (by simp), hFB, oe, vs, T, oT, ts, he, hc, hd, hv1, PySem.W.hideAll_none _ (by simp), hTe, hT, hdT, h3⟩
  have hfr := I.ok.frames
  refine wpAny_looks_onW (base := PySem.W.hideAll s.heap (frs X.stack ++ [a, T])) (outer := X.outer) (cls := cls) (a0 := a0) (by rw [hfr, hst]) hf (by rw [← hst]; exact hfl) fun h4 hheld sm4 => ?_
  refine wpAny_landsW hheld fun h5 hfl5 sm5 => ?_
  rw [← hst] at hfl5
  obtain ⟨I5, F5⟩ := FlyAt.held hx I has hfl5 (sm4.trans sm5)
  exact h h5 I5 F5
theorem seen2 {M : Model} {a : Addr} {cls : Value} {Q : Unit → Shared → Prop} {A' : Around} {E1 : Value → Shared → Prop} (hx : X.ex = []) (I : Inv X pins σ H s) (fl : FlyAt X pins H s.heap a cls)
    (h : ∀ h5, Inv X pins σ H { s with heap := h5 } → FlyAt X pins H h5 a cls → Q () { s with heap := h5 }) : wpAny M A' (setFlight (.ref a) none) Q E1 s := by
  obtain ⟨oe, vs, T, oT, ts, a0, he, hc, hd, hv1, hTe, hT, hdT, h3, has⟩ := fl
  have hFB : s.heap.FunFrames (PySem.W.hideAll s.heap (frs X.stack ++ [a, T])) X.stack := PySem.W.funFrames_hide I.stack fun env z b hb => List.mem_append_left _ (List.mem_filterMap.mpr ⟨env, z, hb⟩)
  have hfl : Heap.FlyingW (PySem.W.hideAll s.heap (frs X.stack ++ [a, T])) X.stack a cls a0 s.heap :=
    ⟨fun b o z => PySem.W.of_hideAll _ z, PySem.W.hideAll_none _ (by simp), hFB, oe, vs, T, oT, ts, he, hc, hd, hv1, PySem.W.hideAll_none _ (by simp), hTe, hT, hdT, h3⟩
  refine lands_againW hfl fun h5 hfl5 sm5 => ?_
  obtain ⟨I5, F5⟩ := FlyAt.held hx I has hfl5 sm5
  exact h h5 I5 F5

def excO (a : Addr) (cls : Value) : HO := .ext fun h => ∃ o, h.get? a = some o ∧ o.cls = cls
theorem Inv.track {a : Addr} {cls : Value} (I : Inv X pins σ H s) (fl : FlyAt X pins H s.heap a cls) : Inv X pins σ (upd H a (excO a cls)) s := by
  obtain ⟨oe, vs, T, oT, ts, a0, he, ⟨hc, _⟩, _, _, _, _, _, _, has⟩ := fl
  obtain ⟨ap, hn⟩ := has a (by simp)
  have u : Un (frs X.stack) [a] H (upd H a (excO a cls)) s.heap s.heap := ⟨fun b o q _ _ _ => q, fun b o q _ _ _ => ⟨o.slots, q⟩, fun b o _ n hb => by rw [upd_ne (fun z => hb (by simp [z]))]; exact n, fun b o q _ => ⟨o, q⟩,
    fun b xs e => by rw [upd_ne (ne_of_none e hn)]; exact e, fun b o x e => by rw [upd_ne (ne_of_none e hn)]; exact e, fun b ps e => ⟨#[], by rw [upd_ne (ne_of_none e hn), e]; simp⟩⟩
  have hok : HOk X.prog X.w (upd H a (excO a cls)) s.heap := fun b o e => by
    by_cases z : b = a
    · subst z
      rw [upd_same] at e
      cases e
      exact ⟨⟨oe, he, hc⟩, ⟨oe, he⟩, fun h1 h2 ⟨o, e1, c1⟩ k => ⟨o, k o e1, c1⟩⟩
    · rw [upd_ne z] at e
      exact (I.hok b o e).stay (fun c v _ q => q) (fun c q => by
        rw [upd_ne (ne_of_none q hn)]; exact q) fun c xs q => by rw [upd_ne (ne_of_none q hn)]; exact q
  have J := (I.exs (as := [a]) fun b hb => by rw [List.mem_singleton.mp hb]; exact ap).call (g' := s.gens) (t' := s.toks) (d' := s.drawn) (ch := [a]) u hok I.bare fun b hb => by
    rw [List.mem_singleton.mp hb]
    exact ⟨.inl (List.mem_append_right _ (by simp)), ap.2.1, ap.2.2.1, ap.2.2.2.2⟩
  exact J.unexs I.ok fun b hb => by rw [List.mem_singleton.mp hb]; exact ap.1
end
end L2
namespace L2
open PySem PySem.Spec PyProof.Rows

section
variable {M : Model} {A : Around} {E : Value → Shared → Prop} {s : Shared}
end

abbrev Cx.suite (X : Cx) (a : Addr) : Cx := { X with A := X.A.mark (some (.ref a)), calm := false, xe := fun _ _ => False }
section
variable {X : Cx} {pins : List (Addr × Obj)} {σ : St} {H : Hp} {s : Shared} {a : Addr}
theorem Inv.suite (I : Inv X pins σ H s) (a : Addr) : Inv (X.suite a) pins σ H s :=
  have ok := I.ok
  ⟨⟨ok.mod, ok.kind, ok.glob, ok.blt, ok.above, ok.inj, ok.has, ok.cab, fun z => (Bool.false_ne_true z).elim, ok.frames, ok.stk, ok.exf, ok.bs, ok.bsz, ok.noex, ok.exfs, ok.funs, ok.frf⟩, I.os, I.bare, I.base, I.loc, I.cell, I.free, I.freeC, I.pin, I.hok, I.len⟩
theorem Inv.unsuite (I : Inv (X.suite a) pins σ H s) (ok : X.Ok) : Inv X pins σ H s := ⟨ok, I.os, I.bare, I.base, I.loc, I.cell, I.free, I.freeC, I.pin, I.hok, I.len⟩
theorem SP.unsuite {D : Ends} {f : Flow} (h : SP (X.suite a) pins D f s) (ok : X.Ok) : SP X pins D f s := by
  cases f with
  | next => obtain ⟨σ', H', I, q⟩ := h; exact ⟨σ', H', I.unsuite ok, q⟩
  | brk => obtain ⟨σ', H', I, q⟩ := h; exact ⟨σ', H', I.unsuite ok, q⟩
  | cont => obtain ⟨σ', H', I, q⟩ := h; exact ⟨σ', H', I.unsuite ok, q⟩
  | ret u => obtain ⟨v, σ', H', I, r, q⟩ := h; exact ⟨v, σ', H', I.unsuite ok, r, q⟩
end
end L2
namespace L2
open PySem PySem.Spec PyProof.Rows

section
variable {M : Model} {A : Around} {E : Value → Shared → Prop}
variable {nm q nm' q' : Str} {C N C' N' : Addr} {bs bm bs' bm' : List Value} {hdct hdct' : Bool} {sn sn' : List Str} {sub sub' : List Value} {ab ab' : Bool} {col col' : Option Bool} {dd dd' : Option Addr} {k0 k1 k2 k3 k5 l0 l1 l2 l3 l5 : Option Value} {newId newId' : String}
theorem excMatches_own {h : Heap} {g : Array GenState} {d : Drawn} {t : Nat} {os : OsState} {e : Addr} {oe : Obj} {Q : Bool → Shared → Prop}
    (hC : h.get? C = some (excClassObj nm q C N bs bm hdct sn sub ab col dd k0 k1 k2 k3 k5 newId)) (hC' : h.get? C' = some (excClassObj nm' q' C' N' bs' bm' hdct' sn' sub' ab' col' dd' l0 l1 l2 l3 l5 newId'))
    (he : h.get? e = some oe) (hcls : oe.cls = .ref C) (hbase : bm'.contains (.type "BaseException") = true)
    (hq : Q ((Value.ref C :: bm).contains (.ref C')) ⟨h, g, d, t, os⟩) : wpAny M A (excMatches (.ref e) (.ref C')) Q E ⟨h, g, d, t, os⟩ := by
  have hcB : (Value.ref C' :: bm').contains (.type "BaseException") = true := by rw [List.contains_cons, hbase, Bool.or_true]
  have f := tc_notTuple
  unfold excMatches
  repeat (first | (with_reducible refine wpAny_loadPart_at he ?_; rw [hcls]) | with_reducible refine wpAny_loadPart_at hC' ?_ | (with_reducible refine wpAny_isSubtype_exc hC' ?_; rw [hcB]) | with_reducible refine wpAny_isSubtype_exc hC ?_ | wp_step)
  cases hb : (Value.ref C :: bm).contains (.ref C') <;> (rw [hb] at hq; wp_walk; exact hq)
end

def PM (X : Cx) (t : Expr) (cls : Value) (tm : TT) : Prop :=
  ∀ (pins : List (Addr × Obj)) (s : Shared) (σ : St) (H : Hp) (a : Addr) (oa : Obj) (Q : Bool → Hp → Prop), Inv X pins σ H s → (a, oa) ∈ pins → oa.cls = cls → tm σ H Q →
    wpAny (model X.prog X.w) X.A (eval t X.env) (fun c s1 => wpAny (model X.prog X.w) X.A (excMatches (.ref a) c) (TP X pins σ Q) (fun _ _ => False) s1) (fun _ _ => False) s
def tBool (b : Bool) : TT := fun _ H Q => Q b H
theorem pm_own {X : Cx} {x x' : Str} {C C' : Addr} {bm bm' : List Value} {p : Pos} (O : OX X.K X.mg x C bm) (O' : OX X.K X.mg x' C' bm') (hg : Gl X x' := by rfl) (hdb : (x' == ("__debug__" : Str)) = false := by decide) :
    PM X (.Name x' p) (.ref C) (tBool ((Value.ref C :: bm).contains (.ref C'))) := by
  intro pins s σ H a oa Q I hp hc h
  obtain ⟨N, nm, q, bs, hdct, sn, sub, ab, col, dd, k0, k1, k2, k3, k5, lk, _, _⟩ := O.obj
  obtain ⟨N', nm', q', bs', hdct', sn', sub', ab', col', dd', l0, l1, l2, l3, l5, lk', _, _⟩ := O'.obj
  refine ld_glob I hg O'.bound ?_ hdb
  obtain ⟨hp', g, d, t, os⟩ := s
  exact excMatches_own (I.kIn _ _ lk) (I.kIn _ _ lk') (I.pin _ (List.mem_append_right _ hp)).1 hc ((PySem.W.tail_of_in I.kIn O'.tail).hasType rfl) ⟨H, I, h⟩
def PH (X : Cx) (hs : List ExceptHandler) (t : Addr → Value → TS) : Prop :=
  ∀ (pins : List (Addr × Obj)) (s : Shared) (σ : St) (H : Hp) (D : Ends) (a : Addr) (cls : Value), Inv X pins σ H s → FlyAt X pins H s.heap a cls → t a cls D σ H →
    wpAny (model X.prog X.w) X.A (handleBy (.ref a) X.env hs) (SP X pins D) (fun _ _ => False) s

theorem Inv.pinX {X : Cx} {pins : List (Addr × Obj)} {σ : St} {H : Hp} {s : Shared} {a : Addr} {cls : Value} (I : Inv X pins σ H s) (fl : FlyAt X pins H s.heap a cls) :
    ∃ oa T oT, Inv X ([(a, oa), (T, oT)] ++ pins) σ H s ∧ oa.cls = cls ∧ ∀ {H' : Hp} {s' : Shared}, Inv X ([(a, oa), (T, oT)] ++ pins) σ H' s' → FlyAt X pins H' s'.heap a cls := by
  obtain ⟨oe, vs, T, oT, ts, a0, he, hc, hd, hv1, hTe, hT, hdT, h3, has⟩ := fl
  refine ⟨oe, T, oT, I.pins_of fun p hp => ?_, hc.1, fun {H' s'} J => ?_⟩
  · rcases List.mem_append.mp hp with z | z
    · rcases List.mem_cons.mp z with rfl | z
      · exact ⟨he, (has a (by simp)).2, (has a (by simp)).1.2.1, (has a (by simp)).1.2.2.2.1, fun v e => by rw [hd] at e; cases e⟩
      · rw [List.mem_singleton.mp z]
        exact ⟨hT, (has T (by simp)).2, (has T (by simp)).1.2.1, (has T (by simp)).1.2.2.2.1, fun v e => by rw [hdT] at e; cases e⟩
    · exact I.pin p (List.mem_append_right _ z)
  · have pa := J.pin (a, oe) (List.mem_append_right _ (by simp))
    have pT := J.pin (T, oT) (List.mem_append_right _ (by simp))
    refine ⟨oe, vs, T, oT, ts, a0, pa.1, hc, hd, hv1, hTe, pT.1, hdT, h3, fun b hb => ?_⟩
    rcases List.mem_cons.mp hb with rfl | hb
    · exact ⟨(has _ (by simp)).1, pa.2.1⟩
    · rw [List.mem_singleton.mp hb]; exact ⟨(has T (by simp)).1, pT.2.1⟩
theorem Inv.unpin {X : Cx} {pins more : List (Addr × Obj)} {σ : St} {H : Hp} {s : Shared} (I : Inv X (more ++ pins) σ H s) : Inv X pins σ H s := I.pins_of fun p hp => I.pin p (List.mem_append_right _ (List.mem_append_right _ hp))

def tClause (cls0 : Value) (tm : TT) (take rest : Addr → Value → TS) : Addr → Value → TS := fun a cls D σ H => cls = cls0 ∧ tm σ H fun b H' => if b = true then take a cls D σ H' else rest a cls D σ H'
def tSuite (tb : TS) : Addr → Value → TS := fun a cls D σ H => tb D σ (upd H a (excO a cls))
section
variable {X : Cx} {t : Expr} {b₀ : Stmt} {body : List Stmt} {pos : Pos} {rest : List ExceptHandler} {cls0 : Value} {tm : TT} {tb : TS} {tr : Addr → Value → TS}
theorem ph_nil : PH X [] fun _ _ _ _ _ => False := fun _ _ _ _ _ _ _ _ _ h => h.elim
theorem ph_cons (hx : X.ex = []) (hm : ∀ a, PM (X.suite a) t cls0 tm) (hb : ∀ a, PSs (X.suite a) (b₀ :: body) tb) (hr : PH X rest tr) : PH X (.ExceptHandler (some t) none (b₀ :: body) pos :: rest) (tClause cls0 tm (tSuite tb) tr) := by
  intro pins s σ H D a cls I fl ⟨hcl, h⟩
  subst hcl
  refine wpAny_handleBy_cons (codeAny_handlers_test ?_) (by intro q; cases q)
  obtain ⟨oa, T, oT, J, hc, back⟩ := I.pinX fl
  have h1 := hm a _ s σ H a oa _ (J.suite a) (by simp) hc h
  refine wpAny_mono h1 (fun c s1 h2 => wpAny_mono h2 (fun b s2 ⟨H2, J2, q⟩ => ?_) fun _ _ z => z.elim) fun _ _ z => z.elim
  have J3 := J2.unsuite I.ok
  cases b with
  | true =>
    refine codeAny_handlers_suite (seen2 hx J3.unpin (back J3) fun h5 I5 F5 => ?_)
    exact wpAny_mono (hb a pins _ σ _ D ((I5.track F5).suite a) q) (fun f s3 hf => hf.unsuite I.ok) fun _ _ z => z.elim
  | false => exact hr pins s2 σ H2 D a cls J3.unpin (back J3) q
end

def PXe (X : Cx) (e : Expr) (t : XK → TE) : Prop := ∀ (pins : List (Addr × Obj)) (s : Shared) (σ : St) (H : Hp) (Q : VK) (E : XK), Inv X pins σ H s → t E σ H Q → wpAny (model X.prog X.w) X.A (eval e X.env) (EP X pins σ Q) (XE X pins σ E) s
def PXs (X : Cx) (st : List Stmt) (t : XK → TS) : Prop := ∀ (pins : List (Addr × Obj)) (s : Shared) (σ : St) (H : Hp) (D : Ends) (E : XK), Inv X pins σ H s → t E D σ H → wpAny (model X.prog X.w) X.A (execs st X.env) (SP X pins D) (XE X pins σ E) s
section
variable {X : Cx} {e : Expr} {es : List Expr} {pos p : Pos} {t : TA}
theorem pxe_call {k : Nat} {x : Str} {ps : List Str} {sp : Sp} (hx : X.ex = []) (h : HasX X.prog X.w X.K X.mg X.base k x ps sp) (hr : Room k X.A) (ha : PA X.nox (e :: es) t) (hg : Gl X x := by rfl)
    (hdb : (x == ("__debug__" : Str)) = false := by decide) (he : starEach (e :: es) X.env = (false, eval e X.env) :: starEach es X.env := by rfl) (hpl : (backTo pos (starEach es X.env)).any (·.1) = false := by rfl) :
    PXe X (.Call (.Name x p) (e :: es) [] pos) fun E => tCall sp [] E t := by
  intro pins s σ H Q E I hw
  obtain ⟨f, fd, F, hb, hk, hm⟩ := h
  refine wpAny_Call_Name_kw (ld_glob I hg hm ?_ hdb)
  refine PySem.W.callWith_K (h₀ := X.base) I.ok.mod.kin hk (wpAny_mono (ha pos pins s σ H _ (I.wish _) hw) (fun us s1 ⟨vs, H1, I1, r, q⟩ => ⟨I1.kIn, ?_⟩) fun _ _ z => z.elim) he hpl
  have J := I1.unwish
  have q : sp vs H1 Q E := by have z : sp (vs ++ []) H1 Q E := q; rwa [List.append_nil] at z
  have hl : us.length = ps.length := by rw [← r.length]; exact F.len _ _ _ _ q
  refine wpAny_call (codeAny_mono (F.run X.A X.stack s1 H1 ⟨us, []⟩ us vs Q E hr J.env0 (.of_eq (hb us hl)) r q) fun r s' hq => ?_)
  cases r with
  | error e => exact J.afterXE hx hq
  | ok fl =>
    cases fl with
    | ret u => exact J.after hq
    | next => exact False.elim hq
    | brk => exact False.elim hq
    | cont => exact False.elim hq
def tTry (tb : XK → TS) (th : Addr → Value → TS) : TS := fun D σ H => tb (fun cls a H' => ∃ a', a = some a' ∧ th a' cls D σ H') D σ H
theorem ps_try {body : List Stmt} {h₀ : ExceptHandler} {hs : List ExceptHandler} {tb : XK → TS} {th : Addr → Value → TS} (hx : X.ex = []) (hst : X.stack = X.env :: X.outer) (hf : X.env.frame = some X.env.locals) (hb : PXs X body tb) (hh : PH X (h₀ :: hs) th) :
    PS X (.Try body (h₀ :: hs) [] [] pos) (tTry tb th) := by
  intro pins s σ H D I h
  refine wpAny_Try_except (wpAny_mono (hb pins s σ H D _ I h) (fun f s1 q => ?_) fun e s1 q => ?_)
  · cases f with
    | next => exact wpAny_execs_nil q
    | ret v => exact q
    | brk => exact q
    | cont => exact q
  · obtain ⟨a, cls, H', rfl, I', fl, a', ha, q⟩ := q
    cases ha
    exact seen hx hst hf I' fl fun h5 I5 F5 => wpAny_mono (hh pins _ σ H' D a cls I5 F5 q) (fun _ _ z => z) fun _ _ z => z.elim
end
end L2
namespace L2
open PySem PySem.Spec PyProof.Rows

def OwnAt (h : Heap) (C : Addr) (bm : List Value) : Prop := ∃ N nm q bs hdct sn sub ab col dd k0 k1 k2 k3 k5 newId, h.get? C = some (excClassObj nm q C N bs bm hdct sn sub ab col dd k0 k1 k2 k3 k5 newId) ∧ bm.contains (.type "BaseException") = true
theorem OX.at {K : PySem.W.Frag} {mg : Str → Option Value} {x : Str} {C : Addr} {bm : List Value} {h : Heap} (O : OX K mg x C bm) (X : K.In h) : OwnAt h C bm := by
  obtain ⟨N, nm, q, bs, hdct, sn, sub, ab, col, dd, k0, k1, k2, k3, k5, lk, _, _⟩ := O.obj
  exact ⟨N, nm, q, bs, hdct, sn, sub, ab, col, dd, k0, k1, k2, k3, k5, _, X _ _ lk, (PySem.W.tail_of_in X O.tail).hasType rfl⟩

section
variable {M : Model} {A : Around} {E : Value → Shared → Prop} {h : Heap} {g : Array GenState} {d : Drawn} {t : Nat} {os : OsState}
end

end L2
namespace L2
open PySem PySem.Spec PySem.Calls PyProof.Rows PySem.W

end L2
namespace SM
theorem modB3 (x : Int) {m : Int} (h : 1 ≤ m) : 0 ≤ x % m ∧ x % m < m := ⟨Int.emod_nonneg _ (by omega), Int.emod_lt_of_pos _ (by omega)⟩
theorem mod_of {x m r : Int} (h0 : 0 ≤ r) (h1 : r < m) (h : m ∣ x - r) : x % m = r := by
  obtain ⟨k, hk⟩ := h
  have : x = r + m * k := by omega
  rw [this, Int.add_mul_emod_self_left, Int.emod_eq_of_lt h0 h1]
theorem mod_dvd (x m : Int) : m ∣ x - x % m := ⟨x / m, by have := Int.mul_ediv_add_emod x m; omega⟩
theorem mod_congr {x y m : Int} (h : m ∣ x - y) : x % m = y % m := Int.emod_emod_of_dvd_sub h
where
  Int.emod_emod_of_dvd_sub {x y m : Int} (h : m ∣ x - y) : x % m = y % m := by
    obtain ⟨k, hk⟩ := h
    have : x = y + m * k := by omega
    rw [this, Int.add_mul_emod_self_left]
theorem crt {p q A B : Int} (hp : 1 ≤ p) (hq : 1 ≤ q) (h : gcdI p q ∣ A - B) : ∃ t, p ∣ t - A ∧ q ∣ t - B := by
  obtain ⟨x, y, e⟩ := bezout p q (by omega) (by omega)
  obtain ⟨k, hk⟩ := h
  rw [e, Int.add_mul] at hk
  refine ⟨A - p * x * k, ⟨-(x * k), ?_⟩, ⟨y * k, ?_⟩⟩
  · rw [Int.mul_neg, ← Int.mul_assoc]; omega
  · rw [← Int.mul_assoc]; omega
def sh2 (u v : T3) : T3 := (gcdI u.1 v.1, (u.2.1 - v.2.1 - (v.2.2 - 1)) % gcdI u.1 v.1, if u.2.2 + v.2.2 - 1 < gcdI u.1 v.1 then u.2.2 + v.2.2 - 1 else gcdI u.1 v.1)
theorem sh2_pos {u v : T3} (hu : 1 ≤ u.1) : 1 ≤ gcdI u.1 v.1 := by have := gcdI_pos (a := u.1) (b := v.1) (by omega); omega
theorem sh2_wk {u v : T3} (hu : L2.Wk u) (hv : L2.Wk v) : L2.Wk (sh2 u v) := by
  have g := sh2_pos (v := v) hu.1
  have b := modB3 (u.2.1 - v.2.1 - (v.2.2 - 1)) g
  obtain ⟨_, _, _, _, _⟩ := hu
  obtain ⟨_, _, _, _, _⟩ := hv
  refine ⟨g, b.1, b.2, ?_, ?_⟩
  · show 1 ≤ ite _ _ _
    split <;> omega
  · show ite _ _ _ ≤ gcdI u.1 v.1
    split <;> omega
theorem mod_sub_mod (d x g : Int) : (d - x % g) % g = (d - x) % g := mod_congr (by
  obtain ⟨k, hk⟩ := mod_dvd x g
  exact ⟨k, by omega⟩)
theorem sh2_rest (u v : T3) (d : Int) : (d - (sh2 u v).2.1) % (sh2 u v).1 = (d - u.2.1 + v.2.1 + v.2.2 - 1) % gcdI u.1 v.1 := by
  show (d - (u.2.1 - v.2.1 - (v.2.2 - 1)) % gcdI u.1 v.1) % gcdI u.1 v.1 = _
  rw [mod_sub_mod]
  congr 1
  omega
theorem sh2_lt {u v : T3} (hu : 1 ≤ u.1) (d : Int) : (d - (sh2 u v).2.1) % (sh2 u v).1 < (sh2 u v).2.2 ↔ (d - u.2.1 + v.2.1 + v.2.2 - 1) % gcdI u.1 v.1 < u.2.2 + v.2.2 - 1 := by
  rw [sh2_rest]
  have b := modB3 (d - u.2.1 + v.2.1 + v.2.2 - 1) (sh2_pos (v := v) hu)
  show _ < ite _ _ _ ↔ _
  split <;> omega
theorem sh2_iff {u v : T3} (hu : L2.Wk u) (hv : L2.Wk v) (d : Int) : (d - (sh2 u v).2.1) % (sh2 u v).1 < (sh2 u v).2.2 ↔ ∃ t, (t - u.2.1) % u.1 < u.2.2 ∧ (t - d - v.2.1) % v.1 < v.2.2 := by
  rw [sh2_lt hu.1]
  obtain ⟨p, a, l⟩ := u
  obtain ⟨q, b, n⟩ := v
  obtain ⟨p0, a0, a1, l0, l1⟩ := hu
  obtain ⟨q0, b0, b1, n0, n1⟩ := hv
  dsimp only at *
  have g0 : 1 ≤ gcdI p q := sh2_pos (u := (p, a, l)) (v := (q, b, n)) p0
  have bg := modB3 (d - a + b + n - 1) g0
  obtain ⟨k, hk⟩ := mod_dvd (d - a + b + n - 1) (gcdI p q)
  generalize hm : (d - a + b + n - 1) % gcdI p q = m at *
  constructor
  · intro h
    obtain ⟨i, j, i0, i1, j0, j1, e⟩ : ∃ i j : Int, 0 ≤ i ∧ i < l ∧ 0 ≤ j ∧ j < n ∧ i - j = m - (n - 1) := by
      by_cases c : n - 1 ≤ m
      · exact ⟨m - (n - 1), 0, by omega, by omega, by omega, by omega, by omega⟩
      · exact ⟨0, n - 1 - m, by omega, by omega, by omega, by omega, by omega⟩
    obtain ⟨t, h1, h2⟩ := crt (A := a + i) (B := b + d + j) p0 q0 ⟨-k, by rw [Int.mul_neg]; omega⟩
    refine ⟨t, ?_, ?_⟩
    · rw [mod_of (r := i) i0 (by omega) (by have : t - a - i = t - (a + i) := by omega
                                            rw [this]; exact h1)]
      exact i1
    · rw [mod_of (r := j) j0 (by omega) (by have : t - d - b - j = t - (b + d + j) := by omega
                                            rw [this]; exact h2)]
      exact j1
  · rintro ⟨t, h1, h2⟩
    have b1 := modB3 (t - a) p0
    have b2 := modB3 (t - d - b) q0
    have d1 := Int.dvd_trans (gcdI_dvd_left p q) (mod_dvd (t - a) p)
    have d2 := Int.dvd_trans (gcdI_dvd_right p q) (mod_dvd (t - d - b) q)
    generalize (t - a) % p = i at *
    generalize (t - d - b) % q = j at *
    have dd := Int.dvd_sub d1 d2
    have e : m = (i - j + n - 1) % gcdI p q := by
      rw [← hm]
      refine mod_congr ?_
      have : d - a + b + n - 1 - (i - j + n - 1) = t - a - i - (t - d - b - j) := by omega
      rw [this]
      exact dd
    rw [e]
    have : (i - j + n - 1) % gcdI p q ≤ i - j + n - 1 := by
      by_cases c : i - j + n - 1 < gcdI p q
      · rw [Int.emod_eq_of_lt (by omega) c]; exact Int.le_refl _
      · have := modB3 (i - j + n - 1) g0
        omega
    omega
def NextOf (p : Int → Prop) (t : Int) : Option Int → Prop
  | some x => t ≤ x ∧ p x ∧ ∀ y, t ≤ y → y < x → ¬ p y
  | none => ∀ y, t ≤ y → ¬ p y
theorem NextOf.uniq {p q : Int → Prop} {t : Int} (e : ∀ k, t ≤ k → (p k ↔ q k)) {r s : Option Int} (h : NextOf p t r) (g : NextOf q t s) : r = s := by
  cases r with
  | none => cases s with
    | none => rfl
    | some j => exact absurd ((e j g.1).mpr g.2.1) (h j g.1)
  | some i => cases s with
    | none => exact absurd ((e i h.1).mp h.2.1) (g i h.1)
    | some j =>
      have h1 := h.2.2 j g.1
      have h2 := g.2.2 i h.1
      have h3 := (e j g.1).mpr g.2.1
      have h4 := (e i h.1).mp h.2.1
      have : i = j := by
        rcases Int.lt_trichotomy i j with c | c | c
        · exact absurd h4 (h2 c)
        · exact c
        · exact absurd h3 (h1 c)
      rw [this]
theorem NextOf.shift {p q : Int → Prop} {t : Int} (m : Int) (e : ∀ k, p k ↔ q (k + m)) {r : Option Int} (h : NextOf p t r) : NextOf q (t + m) (r.map (· + m)) := by
  cases r with
  | none => exact fun y hy hq => h (y - m) (by omega) ((e (y - m)).mpr (by have : y - m + m = y := by omega
                                                                           rw [this]; exact hq))
  | some x =>
    refine ⟨by have := h.1; show t + m ≤ x + m; omega, (e x).mp h.2.1, fun y hy hx hq => ?_⟩
    have hx2 : y < x + m := hx
    refine h.2.2 (y - m) (by omega) (by omega) ((e (y - m)).mpr ?_)
    have : y - m + m = y := by omega
    rw [this]
    exact hq
def awP (u : T3) (t : Int) : Prop := (t - u.2.1) % u.1 < u.2.2
def TogP (ws vs : List T3) (d t : Int) : Prop := (∃ u ∈ ws, awP u t) ∧ ∃ v ∈ vs, awP v (t - d)
def begI (u : T3) (t : Int) : Int := t + (u.2.1 - t) % u.1
def nbI (u v : T3) (t : Int) : Option Int := (firstHit (begI u t - v.2.1) u.1 v.1 v.2.2).map fun i => begI u t + u.1 * i
theorem begI_dvd (u : T3) (t : Int) : u.1 ∣ begI u t - u.2.1 := by
  obtain ⟨k, hk⟩ := mod_dvd (u.2.1 - t) u.1
  exact ⟨-k, by unfold begI; rw [Int.mul_neg]; omega⟩
theorem hitAt_awP {u v : T3} {t i : Int} : HitAt (begI u t - v.2.1) u.1 v.1 v.2.2 i ↔ awP v (begI u t + u.1 * i) := by
  unfold HitAt awP
  have : begI u t - v.2.1 + u.1 * i = begI u t + u.1 * i - v.2.1 := by omega
  rw [this]
theorem nb_some {u v : T3} {t x : Int} (hu : L2.Wk u) (hv : L2.Wk v) (h : nbI u v t = some x) : t ≤ x ∧ awP u x ∧ awP v x := by
  have L := firstHit_least (st := begI u t - v.2.1) (sp := u.1) (w := v.1) (n := v.2.2) (by have := hv.1; omega) hv.2.2.2.1
  unfold nbI at h
  obtain ⟨i, hi, rfl⟩ := Option.map_eq_some_iff.mp h
  rw [hi] at L
  have b := modB3 (u.2.1 - t) hu.1
  have m := Int.mul_nonneg (show 0 ≤ u.1 by have := hu.1; omega) L.1
  refine ⟨by unfold begI; omega, ?_, hitAt_awP.mp L.2.1⟩
  obtain ⟨k, hk⟩ := begI_dvd u t
  unfold awP
  rw [mod_of (r := 0) (by omega) (by have := hu.1; omega) ⟨k + i, by rw [Int.mul_add]; omega⟩]
  have := hu.2.2.2.1
  omega
theorem nb_le {u v : T3} {t y : Int} (hu : L2.Wk u) (hv : L2.Wk v) (ht : t ≤ y) (h1 : u.1 ∣ y - u.2.1) (h2 : awP v y) : ∃ x, nbI u v t = some x ∧ x ≤ y := by
  have L := firstHit_least (st := begI u t - v.2.1) (sp := u.1) (w := v.1) (n := v.2.2) (by have := hv.1; omega) hv.2.2.2.1
  obtain ⟨k, hk⟩ := begI_dvd u t
  obtain ⟨j, hj⟩ := h1
  have e : y = begI u t + u.1 * (j - k) := by rw [Int.mul_sub]; omega
  have u0 := hu.1
  have b := modB3 (u.2.1 - t) u0
  have jk : 0 ≤ j - k := by
    by_cases c : 0 ≤ j - k
    · exact c
    · exfalso
      have : u.1 * (j - k) ≤ u.1 * (-1) := Int.mul_le_mul_of_nonneg_left (by omega) (by omega)
      rw [Int.mul_neg, Int.mul_one] at this
      unfold begI at e
      omega
  have hit : HitAt (begI u t - v.2.1) u.1 v.1 v.2.2 (j - k) := hitAt_awP.mpr (by rw [← e]; exact h2)
  cases hf : firstHit (begI u t - v.2.1) u.1 v.1 v.2.2 with
  | none => rw [hf] at L; exact absurd hit (L _ jk)
  | some i =>
    rw [hf] at L
    refine ⟨begI u t + u.1 * i, by unfold nbI; rw [hf]; rfl, ?_⟩
    have le : i ≤ j - k := by
      by_cases c : i ≤ j - k
      · exact c
      · exact absurd hit (L.2.2 _ jk (by omega))
    have := Int.mul_le_mul_of_nonneg_left le (show 0 ≤ u.1 by omega)
    omega
theorem awP_begin {u : T3} {x : Int} (hu : L2.Wk u) (h : awP u x) (h2 : ¬ awP u (x - 1)) : u.1 ∣ x - u.2.1 := by
  unfold awP at *
  have b := modB3 (x - u.2.1) hu.1
  obtain ⟨k, hk⟩ := mod_dvd (x - u.2.1) u.1
  by_cases c : (x - u.2.1) % u.1 = 0
  · exact ⟨k, by omega⟩
  · exfalso
    have : (x - 1 - u.2.1) % u.1 = (x - u.2.1) % u.1 - 1 := mod_of (by omega) (by omega) ⟨k, by omega⟩
    omega
def LeastIn (os : List (Option Int)) : Option Int → Prop
  | some x => some x ∈ os ∧ ∀ y, some y ∈ os → x ≤ y
  | none => ∀ y, some y ∉ os
def cands (ws vs : List T3) (t : Int) : List (Option Int) := ws.flatMap fun u => vs.flatMap fun v => [nbI u v t, nbI v u t]
theorem mem_cands {ws vs : List T3} {t : Int} {o : Option Int} : o ∈ cands ws vs t ↔ ∃ u ∈ ws, ∃ v ∈ vs, o = nbI u v t ∨ o = nbI v u t := by
  unfold cands
  simp only [List.mem_flatMap, List.mem_cons, List.not_mem_nil, or_false]
def shT (d : Int) (u : T3) : T3 := (u.1, (u.2.1 + d) % u.1, u.2.2)
theorem awP_shT (d : Int) (u : T3) (t : Int) : awP (shT d u) t ↔ awP u (t - d) := by
  unfold awP shT
  dsimp only
  rw [mod_sub_mod]
  have : t - (u.2.1 + d) = t - d - u.2.1 := by omega
  rw [this]
theorem shT_wk (d : Int) {u : T3} (h : L2.Wk u) : L2.Wk (shT d u) := by
  have b := modB3 (u.2.1 + d) h.1
  exact ⟨h.1, b.1, b.2, h.2.2.2.1, h.2.2.2.2⟩
theorem least_from {p : Int → Prop} {t y : Int} (ht : t ≤ y) (h : p y) : ∃ x, t ≤ x ∧ x ≤ y ∧ p x ∧ ∀ z, t ≤ z → z < x → ¬ p z := by
  obtain ⟨n, hn⟩ : ∃ n : Nat, y = t + n := ⟨(y - t).toNat, by omega⟩
  induction n using Nat.strongRecOn generalizing y with
  | ind n ih =>
    by_cases c : ∃ z, t ≤ z ∧ z < y ∧ p z
    · obtain ⟨z, z1, z2, z3⟩ := c
      obtain ⟨x, a, b, e, f⟩ := ih (z - t).toNat (by omega) z1 z3 (by omega)
      exact ⟨x, a, by omega, e, f⟩
    · exact ⟨y, ht, Int.le_refl _, h, fun z z1 z2 z3 => c ⟨z, z1, z2, z3⟩⟩
theorem next_of_cands {ws vs : List T3} {d t : Int} (hw : ∀ u ∈ ws, L2.Wk u) (hv : ∀ v ∈ vs, L2.Wk v) (h : ¬ TogP ws vs d t) {r : Option Int} (hr : LeastIn (cands ws (vs.map (shT d)) t) r) : NextOf (TogP ws vs d) t r := by
  have A : ∀ y, some y ∈ cands ws (vs.map (shT d)) t → t ≤ y ∧ TogP ws vs d y := fun y hy => by
    obtain ⟨u, hu, v', hv', e⟩ := mem_cands.mp hy
    obtain ⟨v, hv2, rfl⟩ := List.mem_map.mp hv'
    have key : t ≤ y ∧ awP u y ∧ awP (shT d v) y := by
      rcases e with e | e
      · exact nb_some (hw u hu) (shT_wk d (hv v hv2)) e.symm
      · have := nb_some (shT_wk d (hv v hv2)) (hw u hu) e.symm
        exact ⟨this.1, this.2.2, this.2.1⟩
    exact ⟨key.1, ⟨u, hu, key.2.1⟩, v, hv2, (awP_shT d v y).mp key.2.2⟩
  have B : ∀ y, t ≤ y → TogP ws vs d y → ∃ x, some x ∈ cands ws (vs.map (shT d)) t ∧ x ≤ y := fun y hy hT => by
    obtain ⟨x, x1, x2, x3, x4⟩ := least_from hy hT
    have xt : t < x := by
      rcases Int.lt_or_eq_of_le x1 with z | z
      · exact z
      · exact absurd (by rw [z]; exact x3) h
    obtain ⟨⟨u, hu, au⟩, v, hv2, av⟩ := x3
    have av2 := (awP_shT d v x).mpr av
    have nb := x4 (x - 1) (by omega) (by omega)
    by_cases c : awP u (x - 1)
    · have c2 : ¬ awP (shT d v) (x - 1) := fun z => nb ⟨⟨u, hu, c⟩, v, hv2, (awP_shT d v (x - 1)).mp z⟩
      obtain ⟨z, z1, z2⟩ := nb_le (t := t) (shT_wk d (hv v hv2)) (hw u hu) x1 (awP_begin (shT_wk d (hv v hv2)) av2 c2) au
      exact ⟨z, mem_cands.mpr ⟨u, hu, _, List.mem_map_of_mem hv2, .inr z1.symm⟩, by omega⟩
    · obtain ⟨z, z1, z2⟩ := nb_le (t := t) (hw u hu) (shT_wk d (hv v hv2)) x1 (awP_begin (hw u hu) au c) av2
      exact ⟨z, mem_cands.mpr ⟨u, hu, _, List.mem_map_of_mem hv2, .inl z1.symm⟩, by omega⟩
  cases r with
  | none =>
    intro y hy hT
    obtain ⟨x, hx, _⟩ := B y hy hT
    exact hr x hx
  | some x =>
    refine ⟨(A x hr.1).1, (A x hr.1).2, fun y y1 y2 hT => ?_⟩
    obtain ⟨z, hz, zy⟩ := B y y1 hT
    have := hr.2 z hz
    omega
theorem next_here {ws vs : List T3} {d t : Int} (h : TogP ws vs d t) : NextOf (TogP ws vs d) t (some t) := ⟨Int.le_refl _, h, fun y y1 y2 => by omega⟩
end SM
namespace L2
open PySem PySem.Spec PyProof.Rows SM
section
variable {X : Cx} {pos : Pos}
end
end L2
namespace L2
open PySem PySem.Spec PyProof.Rows SM
section
variable {X : Cx}
end
section
variable {X : Cx} {K : PySem.W.Frag}
end
section
variable {K : PySem.W.Frag} {H : Hp} {Q : VK} {a b a1 a2 b1 b2 : Addr} {xs1 xs2 ys1 ys2 : List V} {ws vs : List T3}
end
end L2
namespace L2
open PySem PySem.Spec PyProof.Rows SM
section
variable {X : Cx} {tg : Expr}
def iRngN (ta : TA) : TI := fun σ H R => ta σ H fun vs H1 => ∃ i j : Int, vs = [.int i, .int j, .int (-1)] ∧ R (Its i (-1) (i - j).toNat) H1
theorem iRngN_ap {ta : TA} {R : It → Hp → Prop} {σ : St} {H : Hp} : iRngN ta σ H R = ta σ H fun vs H1 => ∃ i j : Int, vs = [.int i, .int j, .int (-1)] ∧ R (Its i (-1) (i - j).toNat) H1 := rfl
end
end L2
namespace L2
open PySem PySem.Spec PySem.Calls PyProof.Rows PySem.W Builtin Builtin.ObjectAttr Builtin.Getset_descriptor

section
variable {prog : Program} {w : World} {A : Around} {E : Value → Shared → Prop} {h : Heap} {g : Array GenState} {d : Drawn} {t : Nat} {os : OsState} {a C : Addr} {o : Obj} {bm : List Value} {K : Frag}
end
section
variable {K : Frag} {mg : Str → Option Value} {x x' : Str} {C C' : Addr} {bm bm' : List Value}
end
end L2
namespace L2
open PySem PySem.Spec PySem.Calls PyProof.Rows SM
section
variable {X : Cx}
end
end L2
namespace SM
theorem NextOf.here {p : Int → Prop} {t : Int} (h : p t) : NextOf p t (some t) := ⟨Int.le_refl _, h, fun y y1 y2 => by omega⟩
theorem NextOf.one {p : Int → Prop} {t x y : Int} (h : NextOf p t (some x)) (g : NextOf p t (some y)) : x = y := Option.some.inj (h.uniq (fun _ _ => Iff.rfl) g)
end SM
namespace L2
open PySem PySem.Spec PySem.Calls PyProof.Rows SM
section
variable {prog : Program} {w : World} {A : Around} {E : Value → Shared → Prop} {s : Shared}
end
section
variable {X : Cx} {tg : Expr}
def tRng (ta : TA) : TE := fun σ H Q => ta σ H fun vs H1 => ∃ j : Int, vs = [.int j] ∧ ∀ p, H1 p = none → Q (.ref p) (upd H1 p (.rng 0 j))
theorem tRng_ap {ta : TA} {σ : St} {H : Hp} {Q : VK} : tRng ta σ H Q = ta σ H fun vs H1 => ∃ j : Int, vs = [.int j] ∧ ∀ p, H1 p = none → Q (.ref p) (upd H1 p (.rng 0 j)) := rfl
def iRevR (ta : TE) : TI := fun σ H R => ta σ H fun x H1 => ∃ (a : Addr) (n : Int), x = .ref a ∧ H1 a = some (.rng 0 n) ∧ 0 ≤ n ∧ n < 2 ^ 62 ∧ R (Its (n - 1) (-1) n.toNat) H1
theorem iRevR_ap {ta : TE} {R : It → Hp → Prop} {σ : St} {H : Hp} : iRevR ta σ H R = ta σ H fun x H1 => ∃ (a : Addr) (n : Int), x = .ref a ∧ H1 a = some (.rng 0 n) ∧ 0 ≤ n ∧ n < 2 ^ 62 ∧ R (Its (n - 1) (-1) n.toNat) H1 := rfl
end
end L2
namespace SM
end SM
namespace SM
end SM
namespace L2
open PySem PySem.Spec PySem.Calls PyProof.Rows SM
section
variable {X : Cx}
end
end L2
namespace L2
open PySem PySem.Spec PyProof.Rows SM
abbrev Hd := List T3 × Int
section
variable {K : PySem.W.Frag} {H : Hp} {Q : VK} {a b : Addr} {xs ys : List V} {ws vs : List Hd}
end
section
variable {K : PySem.W.Frag} {H : Hp} {Q : VK} {a b : Addr} {ws vs : List (Option Int)}
end
end L2
namespace SM
open L2
theorem awP_cong {u : T3} {x y : Int} (h : u.1 ∣ y - x) : awP u y ↔ awP u x := by
  unfold awP
  rw [mod_congr (x := y - u.2.1) (y := x - u.2.1) (by rw [show y - u.2.1 - (x - u.2.1) = y - x by omega]; exact h)]
theorem next_lt {ws us : List T3} {d t : Int} {r : Option Int} {u v : T3} (mu : u ∈ ws) (mv : v ∈ us) {x0 : Int} (h1 : awP u x0) (h2 : awP v (x0 - d)) {L : Int} (L0 : 0 < L) (d1 : u.1 ∣ L) (d2 : v.1 ∣ L) (h : NextOf (TogP ws us d) t r) : ∃ x, r = some x ∧ t ≤ x ∧ x < t + L ∧ TogP ws us d x := by
  have b0 := Int.emod_nonneg (x0 - t) (show L ≠ 0 by omega)
  have b1 := Int.emod_lt_of_pos (x0 - t) L0
  have e := Int.emod_add_mul_ediv (x0 - t) L
  have dv : L ∣ t + (x0 - t) % L - x0 := ⟨-((x0 - t) / L), by rw [Int.mul_neg]; omega⟩
  have y : TogP ws us d (t + (x0 - t) % L) := ⟨⟨u, mu, (awP_cong (Int.dvd_trans d1 dv)).mpr h1⟩, v, mv, (awP_cong (u := v) (x := x0 - d) (by rw [show t + (x0 - t) % L - d - (x0 - d) = t + (x0 - t) % L - x0 by omega]; exact Int.dvd_trans d2 dv)).mpr h2⟩
  cases r with
  | none => exact absurd y (h _ (by omega))
  | some x =>
    refine ⟨x, rfl, h.1, ?_, h.2.1⟩
    by_cases c : x ≤ t + (x0 - t) % L
    · omega
    · exact absurd y (h.2.2 _ (by omega) (by omega))
theorem meet_all {u v : T3} (hu : Wk u) (hv : Wk v) (h : gcdI u.1 v.1 ≤ u.2.2 + v.2.2 - 1) (d : Int) : ∃ x, awP u x ∧ awP v (x - d) := by
  have g := sh2_pos (v := v) hu.1
  have b := modB3 (d - u.2.1 + v.2.1 + v.2.2 - 1) g
  obtain ⟨t, h1, h2⟩ := (sh2_iff hu hv d).mp ((sh2_lt hu.1 d).mpr (by omega))
  exact ⟨t, h1, h2⟩
end SM
namespace SM
open L2
end SM
namespace SM
open L2
end SM
namespace SM
theorem IsPart.uniq {n d e : Int} (h : IsPart n d) (g : IsPart n e) : d = e := by
  by_cases c : d < e
  · exact absurd h.dvd (g.least d h.two c)
  · by_cases c2 : e < d
    · exact absurd g.dvd (h.least e g.two c2)
    · omega
theorem NoPart.up {n q : Int} (h : NoPart n q) (c : n % q ≠ 0) : NoPart n (q + 1) := fun d d2 dq e => by
  by_cases z : d = q
  · subst z
    exact c (Int.emod_eq_zero_of_dvd e)
  · exact h d d2 (by omega) e
def trial (n : Nat) : Nat → Nat → Bool
  | 0, _ => true
  | f + 1, d => if n % d = 0 then false else trial n f (d + 1)
theorem trial_ok {n : Nat} : ∀ {f d : Nat}, trial n f d = true → ∀ e, d ≤ e → e < d + f → n % e ≠ 0
  | 0, d, _, e, h1, h2 => by omega
  | f + 1, d, h, e, h1, h2 => by
    unfold trial at h
    split at h
    · cases h
    · rename_i c
      by_cases z : e = d
      · rw [z]; exact c
      · exact trial_ok h e (by omega) (by omega)
theorem prime_of_trial {n f : Nat} (h2 : 2 ≤ n) (hs : n < (2 + f) * (2 + f)) (h : trial n f 2 = true) : IsPart n n := by
  refine isPart_self (p := 2 + (f : Int)) (by omega) (fun d d2 dq e => ?_) (by omega) (by
    have z : ((n : Int)) < (((2 + f) * (2 + f) : Nat) : Int) := Int.ofNat_lt.mpr hs
    rw [Int.natCast_mul, Int.natCast_add] at z
    exact z)
  obtain ⟨k, rfl⟩ := Int.eq_ofNat_of_zero_le (show 0 ≤ d by omega)
  have := trial_ok h k (by omega) (by omega)
  exact this (by have := Int.emod_eq_zero_of_dvd e; omega)
theorem p6 : IsPart 1000003 1000003 := prime_of_trial (n := 1000003) (f := 1000) (by decide) (by decide) (by decide +kernel)
end SM
namespace L2
open PySem PySem.Spec PyProof.Rows SM
section
variable {prog : Program} {w : World} {B : Around} {it : Addr} {fp wr : List Addr} {GG : Array GenState → Array GenState → Prop} {n : Nat} {PV : Nat → Value → Prop} {SV : Nat → Shared → Prop} {RR : Result → Shared → Prop}
end
section
variable {prog : Program} {w : World} {A : Around} {E : Value → Shared → Prop} {s : Shared}
end
section
variable {X : Cx}
end
end L2
namespace L2
open PySem PySem.Spec PyProof.Rows SM
section
variable {X : Cx}
theorem call_minI (hc : X.calm = true) : CallR X (.builtin "min") (fun vs H Q => ∃ (a : Addr) (ns : List Int), vs = [.ref a] ∧ SqL X.K H a (ns.map V.int) ∧ ns ≠ [] ∧ ∀ M, M ∈ ns → (∀ z ∈ ns, M ≤ z) → Q (.int M) H) := by
  intro pins s σ H vs us Q I r h
  obtain ⟨a, ns, rfl, hq, hn, q⟩ := h
  obtain ⟨u, rfl, r1⟩ := Vals.one r
  cases r1
  obtain ⟨its, rv, pl, hz⟩ := I.list hq
  have hi : IntsAre its ns := intsAre_of rv
  obtain ⟨xs, ex⟩ := hi.allInts.items
  have hns : ns = xs.toList.map (·.1) := by rw [← hi.numsOf, ← nums_intItems, ← ex]
  have hsz : xs.size = ns.length := by rw [hns, List.length_map, Array.length_toList]
  have ln : 0 < ns.length := List.length_pos_iff.mpr hn
  have hl := pl.isList
  rw [ex] at hl
  have sz : (intItems xs).size = xs.size := by simp [intItems]
  refine call_min_walkS (iter_intList hl fun s2 e st hfp ne => ?_)
  have WS := (Walks.list (prog := X.prog) (w := X.w) (A := X.A.in1) (I.ok.hd hc) s.heap.objs.size a ne (intItems xs)).toS
  refine ⟨_, _, _, _, _, _, _, _, rfl, WS, st, hfp, by rw [sz]; omega, CmpOf.ints_lt (numAt xs) fun _ _ => intItems_at, fun v s' pv mv => ?_⟩
  subst e
  rw [sz] at pv
  obtain ⟨t, rfl⟩ := intItems_at pv
  obtain ⟨b1, b2⟩ := argBest_lt (numAt xs) (xs.size - 1)
  rw [Moved.eq_with mv]
  refine ⟨.int _, H, I.kept fun b o e => mv.heap b o (fun z => ?_) (Heap.get?_push_of_some _ e), ⟨t, rfl⟩, q _ ?_ fun y hy => ?_⟩
  · exact absurd (Heap.lt_size e) (by rw [List.mem_singleton.mp z]; exact Nat.lt_irrefl _)
  · rw [hns, numAt_eq]; exact getD_mem (by rw [List.length_map, Array.length_toList]; omega)
  · rw [hns] at hy
    obtain ⟨j, hj, rfl⟩ := mem_getD hy
    rw [List.length_map, Array.length_toList] at hj
    rw [← numAt_eq]
    exact b2 j (by omega)
theorem call_maxI (hc : X.calm = true) : CallR X (.builtin "max") (fun vs H Q => ∃ (a : Addr) (ns : List Int), vs = [.ref a] ∧ SqL X.K H a (ns.map V.int) ∧ ns ≠ [] ∧ ∀ M, M ∈ ns → (∀ z ∈ ns, z ≤ M) → Q (.int M) H) := by
  intro pins s σ H vs us Q I r h
  obtain ⟨a, ns, rfl, hq, hn, q⟩ := h
  obtain ⟨u, rfl, r1⟩ := Vals.one r
  cases r1
  obtain ⟨its, rv, pl, hz⟩ := I.list hq
  have hi : IntsAre its ns := intsAre_of rv
  obtain ⟨xs, ex⟩ := hi.allInts.items
  have hns : ns = xs.toList.map (·.1) := by rw [← hi.numsOf, ← nums_intItems, ← ex]
  have hsz : xs.size = ns.length := by rw [hns, List.length_map, Array.length_toList]
  have ln : 0 < ns.length := List.length_pos_iff.mpr hn
  have hl := pl.isList
  rw [ex] at hl
  have sz : (intItems xs).size = xs.size := by simp [intItems]
  refine call_max_walkS (iter_intList hl fun s2 e st hfp ne => ?_)
  have WS := (Walks.list (prog := X.prog) (w := X.w) (A := X.A.in1) (I.ok.hd hc) s.heap.objs.size a ne (intItems xs)).toS
  refine ⟨_, _, _, _, _, _, _, _, rfl, WS, st, hfp, by rw [sz]; omega, CmpOf.ints_gt (numAt xs) fun _ _ => intItems_at, fun v s' pv mv => ?_⟩
  subst e
  rw [sz] at pv
  obtain ⟨t, rfl⟩ := intItems_at pv
  obtain ⟨b1, b2⟩ := argBest_gt (numAt xs) (xs.size - 1)
  rw [Moved.eq_with mv]
  refine ⟨.int _, H, I.kept fun b o e => mv.heap b o (fun z => ?_) (Heap.get?_push_of_some _ e), ⟨t, rfl⟩, q _ ?_ fun y hy => ?_⟩
  · exact absurd (Heap.lt_size e) (by rw [List.mem_singleton.mp z]; exact Nat.lt_irrefl _)
  · rw [hns, numAt_eq]; exact getD_mem (by rw [List.length_map, Array.length_toList]; omega)
  · rw [hns] at hy
    obtain ⟨j, hj, rfl⟩ := mem_getD hy
    rw [List.length_map, Array.length_toList] at hj
    rw [← numAt_eq]
    exact b2 j (by omega)
end
end L2
namespace L2
open PySem PySem.Spec PyProof.Rows SM
section
variable {prog : Program} {w : World} {B : Around} {E : Value → Shared → Prop} {s : Shared}
theorem nextT_item {J tu : Addr} {k : Nat} {its : Array Value} {v : Value} {Q : Value → Shared → Prop} (hj : s.heap.IsTupleIter J tu k) (hu : s.heap.IsTuple tu its) (hv : its[k]? = some v)
    (q : ∀ h', h'.IsTupleIter J tu (k + 1) → Heap.SameBut J s.heap h' → Q v { s with heap := h' }) : wpAny (model prog w) B (Builtin.SmallTypes.nextOf (.ref J)) Q E s := by
  have ty := hj.typeIs
  obtain ⟨oj, ej, cj, dj⟩ := id hj
  obtain ⟨ou, eu, _, mu, du⟩ := hu
  unfold Builtin.SmallTypes.nextOf
  refine wpAny_bind (wpAny_callSpecial?_slot (name := Str.ofString "__next__") ty PySem.F.slot_tuple_iterator_next (wpAny_call_entry PySem.F.slot_tuple_iterator_next ty PySem.F.entry_tuple_iterator_next ?_ (PySem.F.args_tuple_iterator_next_1 _)))
  show wpAny _ _ (field (.ref J) 0 >>= _) _ _ s
  refine wpAny_bind (wpAny_field ej dj (x := .ref tu) rfl ?_)
  show wpAny _ _ (if (Value.ref tu == Value.none) = true then _ else _) _ _ s
  rw [if_neg (show ¬ ((Value.ref tu == Value.none) = true) from Bool.false_ne_true)]
  show wpAny _ _ (field (.ref J) 1 >>= _) _ _ s
  refine wpAny_bind (wpAny_field ej dj (x := .int k 0) rfl ?_)
  show wpAny _ _ (seqItems? (.ref tu) >>= _) _ _ s
  refine wpAny_bind (wpAny_seqItems eu du ?_)
  simp only [hv, Int.toNat_natCast]
  refine wpAny_bind (wpAny_setField ej dj (by simp) (wpAny_pure ⟨v, rfl, wpAny_pure (q _ ?_ (Heap.SameBut.update ..))⟩))
  exact ⟨_, Heap.get?_update_self _ ej (Obj.isFreed_of_fields (Obj.data_mapFields dj _)), (Obj.cls_mapFields ..).trans cj, by rw [Obj.data_mapFields dj]; simp [rawInt]⟩
theorem nextT_end {J tu : Addr} {k : Nat} {its : Array Value} {Q : Value → Shared → Prop} (hh : B.handled = none) (hj : s.heap.IsTupleIter J tu k) (hu : s.heap.IsTuple tu its) (hv : its[k]? = none)
    (q : ∀ h' x, Heap.ExtBut J s.heap h' → (∃ o, h'.get? x = some o ∧ o.cls = .type "StopIteration") → E (.ref x) { s with heap := h' }) : wpAny (model prog w) B (Builtin.SmallTypes.nextOf (.ref J)) Q E s := by
  have ty := hj.typeIs
  obtain ⟨oj, ej, cj, dj⟩ := id hj
  obtain ⟨ou, eu, _, mu, du⟩ := hu
  unfold Builtin.SmallTypes.nextOf
  refine wpAny_bind (wpAny_callSpecial?_slot (name := Str.ofString "__next__") ty PySem.F.slot_tuple_iterator_next (wpAny_call_entry PySem.F.slot_tuple_iterator_next ty PySem.F.entry_tuple_iterator_next ?_ (PySem.F.args_tuple_iterator_next_1 _)))
  show wpAny _ _ (field (.ref J) 0 >>= _) _ _ s
  refine wpAny_bind (wpAny_field ej dj (x := .ref tu) rfl ?_)
  show wpAny _ _ (if (Value.ref tu == Value.none) = true then _ else _) _ _ s
  rw [if_neg (show ¬ ((Value.ref tu == Value.none) = true) from Bool.false_ne_true)]
  show wpAny _ _ (field (.ref J) 1 >>= _) _ _ s
  refine wpAny_bind (wpAny_field ej dj (x := .int k 0) rfl ?_)
  show wpAny _ _ (seqItems? (.ref tu) >>= _) _ _ s
  refine wpAny_bind (wpAny_seqItems eu du ?_)
  simp only [hv, Int.toNat_natCast]
  refine wpAny_bind (wpAny_rule (wpAny_bind (wpAny_setField ej dj (by simp) ?_)))
  show wpAny (model prog w) _ (newExc (.type "StopIteration") [] >>= _) _ _ _
  refine wpAny_bind ?_
  unfold newExc newTuple
  refine wpAny_bind (wpAny_newObj_type ?_)
  refine wpAny_bind (m := firstArgMember _ _) (wpAny_of_eq (a := Value.none) rfl ?_)
  refine wpAny_newObj_type ?_
  unfold raiseNew
  refine wpAny_bind (wpAny_handled ?_)
  rw [hh]
  refine wpAny_bind (wpAny_pure (wpAny_throw (q _ _ (((Heap.SameBut.update ..).extBut.push _).push _) ⟨_, Heap.get?_push_size _ rfl, rfl⟩)))
end
section
variable {prog : Program} {w : World} {B : Around} {E : Value → Shared → Prop} {s : Shared}
end
def okET (K : PySem.W.Frag) (a : Addr) (n : Nat) (H : Hp) : Prop := ∃ xs, SqT K H a xs ∧ xs.length = n
def IteT (K : PySem.W.Frag) (a : Addr) (n : Nat) : It := Itp n (okET K a n) fun i H u v => u = .int i ∧ ∀ xs, SqT K H a xs → xs[i]? = some v
def iEnumT (K : PySem.W.Frag) (ta : TE) : TI := fun σ H R => ta σ H fun x H1 => ∃ a xs, x = .ref a ∧ SqT K H1 a xs ∧ R (IteT K a xs.length) H1
section
variable {X : Cx} {es : List Expr} {k : Nat} {tpos : Pos}
end
theorem iEnumT_ap {K : PySem.W.Frag} {ta : TE} {σ : St} {H : Hp} {R : It → Hp → Prop} : iEnumT K ta σ H R = ta σ H fun x H1 => ∃ a xs, x = .ref a ∧ SqT K H1 a xs ∧ R (IteT K a xs.length) H1 := rfl
end L2
namespace L2
open PySem PySem.Spec PyProof.Rows SM
theorem strs_vals : ∀ l : List (Str × Tok), Vals (l.map fun p => V.str p.1) (strValues l)
  | [] => .nil
  | p :: l => .cons ⟨p.2, rfl⟩ (strs_vals l)
section
variable {X : Cx}
theorem call_int_text : CallR X (.type "int") (fun xs H Q => ∃ z n, xs = [.str z] ∧ intText? z = some n ∧ z.length ≤ 640 ∧ Q (.int n) H) := by
  intro pins s σ H xs us Q I r h
  obtain ⟨z, n, rfl, e, hl, q⟩ := h
  obtain ⟨u, rfl, t, rfl⟩ := Vals.one r
  exact PySem.W.KIN.call_text e hl ⟨.int n, H, I.tok _, ⟨_, rfl⟩, q⟩
end
end L2
namespace L2
open PySem PySem.Spec PyProof.Rows SM
def Asc (z : Str) : Prop := z.cps.all (· < 128) = true
def Itc (z : Str) : It := ⟨fun i _ => i < z.cps.size, fun i H x H' => H' = H ∧ ∃ c, z.cps[i]? = some c ∧ x = .str ⟨#[c]⟩, fun i _ => z.cps.size ≤ i⟩
theorem turn_signs {P : Program} {w : World} {K : PySem.W.Frag} {tg : Expr} (z : Str) (t : Tok) (J : Addr) : Turn P w K tg (Itc z) [J] J (fun i h => h.IsStrIter J "str_ascii_iterator" z t i) where
  mem := by simp
  obj := fun i h st b hb => by
    have eb : b = J := by simpa using hb
    subst eb
    obtain ⟨o, e1, _, d1⟩ := st
    exact ⟨o, e1, fun v y => by rw [d1] at y; cases y⟩
  keep := fun i h h' st k => let ⟨o, e1, r⟩ := st; ⟨o, k J (by simp) o e1, r⟩
  item := by
    intro X hP hw hK hc i pins s σ H E I hf st hg
    subst hP hw hK
    have hi : i < z.cps.size := hg
    have hx : z.cps[i]? = some z.cps[i] := Array.getElem?_eq_getElem hi
    obtain ⟨f0, f1, f2, f3, f4, f5⟩ := hf J (by simp)
    refine wpAny_pyNext_ascii_item st hx fun h' st' sb => ?_
    have I1 : Inv X pins σ H { s with heap := h', toks := s.toks + 1 } := I.turned (t' := s.toks + 1) (fun b o hb e => (sb.2 b hb).trans e) f0 f1 f3 f4 f5
    obtain ⟨o, e1, c1, d1⟩ := id st'
    exact ⟨_, rfl, go_of (s := { s with heap := h', toks := s.toks + 1 }) e1 c1 d1 (by decide) ⟨.str ⟨#[z.cps[i]]⟩, H, I1, ⟨_, rfl⟩, ⟨rfl, z.cps[i], hx, rfl⟩, st', fun b hb => (hf b hb).1⟩⟩
  done := by
    intro X hP hw hK hc i pins s σ H E I hf st hg
    subst hP hw hK
    have hi : z.cps.size ≤ i := hg
    obtain ⟨f0, f1, f2, f3, f4, f5⟩ := hf J (by simp)
    exact wpAny_pyNext_ascii_end (I.ok.hd hc) st (Array.getElem?_eq_none hi) fun h' eb => ⟨rfl, I.turned (t' := s.toks) (fun b o hb e => eb b o hb e) f0 f1 f3 f4 f5⟩
  self := fun _ _ _ _ _ st h => wpAny_pyIter_striter_ascii st h
def iStr (tl : TE) : TI := fun σ H R => tl σ H fun x H1 => ∃ z, x = .str z ∧ Asc z ∧ R (Itc z) H1
theorem iStr_ap {tl : TE} {σ : St} {H : Hp} {R : It → Hp → Prop} : iStr tl σ H R = tl σ H fun x H1 => ∃ z, x = .str z ∧ Asc z ∧ R (Itc z) H1 := rfl
section
variable {X : Cx} {tg : Expr}
theorem pi_str {l : Expr} {tl : TE} (hl : PE X l tl) : PI X tg l (iStr tl) := by
  intro pins s σ H R I h
  refine thn (hl pins s σ H _ I h) fun v s1 ⟨x, H1, I1, r1, q1⟩ => ?_
  obtain ⟨z, rfl, hz, q⟩ := q1
  obtain ⟨t, rfl⟩ := r1
  refine wpAny_pyIter_ascii hz ?_
  refine ⟨s1.heap.objs.size, [s1.heap.objs.size], _, _, H1, rfl, I1.kept (t' := s1.toks) fun b o e => Heap.get?_push_of_some _ e, turn_signs z t _, ⟨_, Heap.get?_push_size _ rfl, rfl, rfl⟩, fun b hb => ?_, q⟩
  have eb : b = s1.heap.objs.size := by simpa using hb
  rw [eb]
  exact I1.fpOk (Nat.le_refl _) (I1.hok.fresh (Nat.le_refl _))
def CS (mg : Str → Option Value) (x : Str) (z : Str) : Prop := ∃ t, mg x = some (.str z t)
theorem cs_mk {K : PySem.W.Frag} {h : Heap} {mg : Str → Option Value} {x z : Str} {t : Tok} (X : K.In h) (G : h.Ns mainGlobals mg) (a : PySem.W.nsIn K mainGlobals x = some (some (.str z t))) : CS mg x z := ⟨t, PySem.W.mg_of X G a⟩
theorem pe_cs {x z : Str} {pos : Pos} (hg : Gl X x) (h : CS X.mg x z) (hd : (x == ("__debug__" : Str)) = false := by decide) : PE X (.Name x pos) (tC (.str z)) := by
  obtain ⟨t, e⟩ := h
  exact pe_glob hg e ⟨t, rfl⟩ hd
end
theorem compW_str {σ : St} {H : Hp} {Q : VK} {z : Str} {g : TG} {tt : TT} {te : TE} {own : List Str} {fr : List Nat} (Sv : St → Prop) (Pv : Addr → Nat → List V → Hp → Prop) (hS : Sv (st0 own fr σ))
    (h0 : ∀ D, H D = none → Pv D 0 [] (upd H D (.lst [])))
    (hs : ∀ D i c ys σ H', z.cps[i]? = some c → Sv σ → H' D = some (.lst ys) → ys.length ≤ i → Pv D i ys H' → g (.str ⟨#[c]⟩) σ H' fun σ2 H2 => tt σ2 H2 fun b H3 => if b = true then te σ2 H3 fun y H4 => CompP Sv Pv D i σ2 y H4 else CompN Sv Pv D (i + 1) σ2 H3)
    (hd : ∀ D ys H', H' D = some (.lst ys) → Pv D z.cps.size ys H' → Q (.ref D) H') : CompW (Itc z) g tt te own fr σ H Q := by
  intro D hD
  refine ⟨fun i m σ H => m = z.cps.size - i ∧ i ≤ z.cps.size ∧ CompN Sv Pv D i σ H, ⟨_, rfl, Nat.zero_le _, hS, [], upd_same, Nat.le_refl _, h0 D hD⟩, ?_⟩
  rintro i m σ1 H1 ⟨rfl, hi, hs1, ys, hy, hy2, p⟩
  by_cases hlt : i < z.cps.size
  · refine .inr ⟨hlt, CompN Sv Pv D (i + 1), fun σ' H' p' => ⟨z.cps.size - (i + 1), by omega, rfl, hlt, p'⟩, fun x H' y => ?_⟩
    obtain ⟨e, c, ec, ex⟩ := y
    subst e ex
    exact hs D i c ys σ1 _ ec hs1 hy hy2 p
  · have e : i = z.cps.size := by omega
    subst e
    exact .inl ⟨Nat.le_refl _, hd D ys H1 hy p⟩
end L2
namespace SM
open L2 PySem PySem.Builtin.Str
def tx (l : List Nat) : Str := ⟨l.toArray⟩
theorem tx_cps (z : Str) : tx z.cps.toList = z := by
  cases z
  simp [tx]
theorem str_ext {y z : Str} (h : y.cps.toList = z.cps.toList) : y = z := by
  rw [← tx_cps y, ← tx_cps z, h]
def cutsF (c : Nat) : List Nat → Nat → List Nat
  | [], _ => []
  | x :: xs, k => if x = c then k :: cutsF c xs (k + 1) else cutsF c xs (k + 1)
theorem sub_list (z : Str) (i j : Nat) : strSub z i j = tx ((z.cps.toList.drop i).take (j - i)) := by
  apply str_ext
  simp [strSub, tx]
theorem sub_one (z : Str) (c k : Nat) {x : Nat} {xs : List Nat} (hd : z.cps.toList.drop k = x :: xs) : subAt z ⟨#[c]⟩ k = true ↔ x = c := by
  have e : (z.cps.extract k (k + 1)).toList = [x] := by
    rw [Array.toList_extract, List.extract_eq_take_drop, show k + 1 - k = 1 by omega, hd]
    rfl
  unfold subAt
  show (z.cps.extract k (k + 1) == #[c]) = true ↔ _
  rw [beq_iff_eq, ← Array.toList_inj, e]
  simp
def glu (c : Nat) : List (List Nat) → List Nat
  | [] => []
  | [p] => p
  | p :: q :: r => p ++ c :: glu c (q :: r)
theorem digs_head : ∀ m : Nat, 0 < m → ∃ ch r, Nat.toDigits 10 m = ch :: r ∧ ch.toNat ≠ 48 := by
  intro m
  induction m using Nat.strongRecOn with
  | _ m ih =>
    intro h0
    by_cases h : m < 10
    · rw [Nat.toDigits_of_lt_base h]
      refine ⟨_, [], rfl, ?_⟩
      have : ∀ d : Nat, d < 10 → 0 < d → (Nat.digitChar d).toNat ≠ 48 := by decide
      exact this m h h0
    · have hm : m % 10 < 10 := Nat.mod_lt m (by decide)
      have t : Nat.toDigits 10 (m / 10) ++ Nat.toDigits 10 (m % 10) = Nat.toDigits 10 (10 * (m / 10) + m % 10) := Nat.toDigits_append_toDigits (by decide) (by omega) hm
      rw [Nat.div_add_mod] at t
      obtain ⟨ch, r, e, ne⟩ := ih (m / 10) (by omega) (by omega)
      rw [← t, e]
      exact ⟨ch, _, rfl, ne⟩
theorem digs_len : ∀ (k m : Nat), m < 10 ^ (k + 1) → (Nat.toDigits 10 m).length ≤ k + 1
  | 0, m, h => by
    rw [Nat.toDigits_of_lt_base (by simpa using h)]
    simp
  | k + 1, m, h => by
    by_cases h1 : m < 10
    · rw [Nat.toDigits_of_lt_base h1]
      simp
    · have hm : m % 10 < 10 := Nat.mod_lt m (by decide)
      have t : Nat.toDigits 10 (m / 10) ++ Nat.toDigits 10 (m % 10) = Nat.toDigits 10 (10 * (m / 10) + m % 10) := Nat.toDigits_append_toDigits (by decide) (by omega) hm
      rw [Nat.div_add_mod] at t
      have ih := digs_len k (m / 10) (by rw [Nat.pow_succ] at h; omega)
      rw [← t, List.length_append, Nat.toDigits_of_lt_base hm]
      simp
      omega
theorem num_text {n : Int} (h0 : 0 ≤ n) : ∃ l : List Nat, Str.ofString (toString n) = tx l ∧ PySem.NumText.AllDigits l ∧ l ≠ [] ∧ ((PySem.NumText.digitsVal l : Nat) : Int) = n ∧ (l[0]? = some 48 → l.length = 1) ∧ ∀ k : Nat, n < 10 ^ (k + 1) → l.length ≤ k + 1 := by
  obtain ⟨m, rfl⟩ := Int.eq_ofNat_of_zero_le h0
  refine ⟨(Nat.toDigits 10 m).map Char.toNat, ?_, ?_, ?_, ?_, ?_, ?_⟩
  · rw [← tx_cps (Str.ofString _), PySem.W.KIN.signs_num]
  · intro c hc
    obtain ⟨ch, hch, e⟩ := List.mem_map.mp hc
    rw [← e]
    exact PyProof.Rows.digit_range (Nat.isDigit_of_mem_toDigits (by decide) (by decide) hch)
  · intro e
    have := List.map_eq_nil_iff.mp e
    have h := PySem.toDigits_len_ge 10 m
    rw [this] at h
    exact absurd h (by decide)
  · rw [PySem.W.KIN.val_back]
  · intro e
    rcases Nat.eq_zero_or_pos m with rfl | hp
    · rfl
    · obtain ⟨ch, r, e1, ne⟩ := digs_head m hp
      rw [e1] at e
      exact absurd (by simpa using e) ne
  · intro k hk
    rw [List.length_map]
    refine digs_len k m ?_
    have e : ((10 ^ (k + 1) : Nat) : Int) = 10 ^ (k + 1) := by rw [Int.natCast_pow]; rfl
    rw [← e] at hk
    exact Int.ofNat_lt.mp hk
end SM
namespace L2
open PySem PySem.Spec PyProof.Rows
def Rises (l : List Nat) : Prop := l.Pairwise (· < ·)
theorem Rises.lt {l : List Nat} (h : Rises l) {i k x y : Nat} (hi : l[i]? = some x) (hk : l[k]? = some y) (hik : i < k) : x < y := by
  obtain ⟨h1, rfl⟩ := List.getElem?_eq_some_iff.mp hi
  obtain ⟨h2, rfl⟩ := List.getElem?_eq_some_iff.mp hk
  exact List.pairwise_iff_getElem.mp h i k h1 h2 hik
theorem below_go {xs : Array Nat} {j : Nat} (h : Rises xs.toList) : ∀ (f lo hi : Nat), lo ≤ hi → hi ≤ xs.size → hi - lo ≤ f → (∀ k x, k < lo → xs[k]? = some x → x < j) → (∀ k x, hi ≤ k → xs[k]? = some x → j ≤ x) →
    SetTable.below.go xs j f lo hi ≤ xs.size ∧ (∀ k x, k < SetTable.below.go xs j f lo hi → xs[k]? = some x → x < j) ∧ ∀ k x, SetTable.below.go xs j f lo hi ≤ k → xs[k]? = some x → j ≤ x
  | 0, lo, hi, h1, h2, h3, a, b => by
    have : lo = hi := by omega
    subst this
    exact ⟨h2, a, b⟩
  | f + 1, lo, hi, h1, h2, h3, a, b => by
    unfold SetTable.below.go
    split
    · rename_i hlt
      have hm : (lo + hi) / 2 < xs.size := by omega
      have em : xs[(lo + hi) / 2]? = some xs[(lo + hi) / 2] := by simp [hm]
      have eg : xs.getD ((lo + hi) / 2) j = xs[(lo + hi) / 2] := by simp [Array.getD, hm]
      dsimp only
      rw [eg]
      split
      · rename_i c
        refine below_go h f _ hi (by omega) h2 (by omega) (fun k x hk e => ?_) b
        by_cases z : k = (lo + hi) / 2
        · subst z
          rw [em] at e
          cases e
          exact c
        · exact Nat.lt_trans (h.lt (by rw [Array.getElem?_toList]; exact e) (by rw [Array.getElem?_toList]; exact em) (by omega)) c
      · rename_i c
        refine below_go h f lo _ (by omega) (by omega) (by omega) a (fun k x hk e => ?_)
        by_cases z : k = (lo + hi) / 2
        · subst z
          rw [em] at e
          cases e
          omega
        · have := h.lt (by rw [Array.getElem?_toList]; exact em) (by rw [Array.getElem?_toList]; exact e) (show (lo + hi) / 2 < k by omega)
          omega
    · have : lo = hi := by omega
      subst this
      exact ⟨h2, a, b⟩
theorem below_is {xs : Array Nat} (h : Rises xs.toList) (j : Nat) : SetTable.below xs j ≤ xs.size ∧ (∀ k x, k < SetTable.below xs j → xs[k]? = some x → x < j) ∧ ∀ k x, SetTable.below xs j ≤ k → xs[k]? = some x → j ≤ x :=
  below_go h xs.size 0 xs.size (Nat.zero_le _) (Nat.le_refl _) (by omega) (fun k x hk => by omega) fun k x hk e => by
    have := (Array.getElem?_eq_some_iff.mp e).1
    omega
theorem below_next {xs : Array Nat} (h : Rises xs.toList) {i x : Nat} (e : xs[i]? = some x) : SetTable.below xs (x + 1) = i + 1 := by
  obtain ⟨a, b, c⟩ := below_is h (x + 1)
  have hi := (Array.getElem?_eq_some_iff.mp e).1
  by_cases z1 : SetTable.below xs (x + 1) ≤ i
  · have := c i x z1 e
    omega
  by_cases z2 : i + 1 < SetTable.below xs (x + 1)
  · have hk : i + 1 < xs.size := by omega
    have e2 : xs[i + 1]? = some xs[i + 1] := by simp [hk]
    have h1 := b (i + 1) _ z2 e2
    have h2 := h.lt (by rw [Array.getElem?_toList]; exact e) (by rw [Array.getElem?_toList]; exact e2) (Nat.lt_succ_self i)
    omega
  omega
theorem below_zero {xs : Array Nat} (h : Rises xs.toList) : SetTable.below xs 0 = 0 := by
  obtain ⟨a, b, c⟩ := below_is h 0
  by_cases z : 0 < SetTable.below xs 0
  · have hk : 0 < xs.size := by omega
    have e2 : xs[0]? = some xs[0] := by simp [hk]
    have := b 0 _ z e2
    omega
  omega
theorem below_mem {xs : Array Nat} (h : Rises xs.toList) {j : Nat} (m : j ∈ xs.toList) : xs[SetTable.below xs j]? = some j := by
  obtain ⟨i, hi, e⟩ := List.mem_iff_getElem.mp m
  have e1 : xs[i]? = some j := by rw [← Array.getElem?_toList, List.getElem?_eq_getElem hi, e]
  obtain ⟨a, b, c⟩ := below_is h j
  by_cases z1 : i < SetTable.below xs j
  · have := b i j z1 e1
    omega
  by_cases z2 : SetTable.below xs j = i
  · rw [z2]; exact e1
  have hk : SetTable.below xs j < xs.size := by
    have := (Array.getElem?_eq_some_iff.mp e1).1
    omega
  have e2 : xs[SetTable.below xs j]? = some xs[SetTable.below xs j] := by simp [hk]
  have h1 := c _ _ (Nat.le_refl _) e2
  have h2 := h.lt (by rw [Array.getElem?_toList]; exact e2) (by rw [Array.getElem?_toList]; exact e1) (show SetTable.below xs j < i by omega)
  omega
theorem rises_insert {xs : Array Nat} (h : Rises xs.toList) {j : Nat} (m : j ∉ xs.toList) : Rises (SetTable.insertAt xs (SetTable.below xs j) j).toList := by
  obtain ⟨a, b, c⟩ := below_is h j
  rw [SetTable.toList_insertAt]
  generalize SetTable.below xs j = p at a b c
  have hb : ∀ x ∈ xs.toList.take p, x < j := fun x hx => by
    obtain ⟨i, hi, e⟩ := List.mem_iff_getElem.mp hx
    rw [List.getElem_take] at e
    rw [List.length_take] at hi
    exact b i x (by omega) (by rw [← Array.getElem?_toList, List.getElem?_eq_getElem (by omega), e])
  have hc : ∀ x ∈ xs.toList.drop p, j < x := fun x hx => by
    obtain ⟨i, hi, e⟩ := List.mem_iff_getElem.mp hx
    rw [List.getElem_drop] at e
    rw [List.length_drop] at hi
    have h1 := c (p + i) x (by omega) (by rw [← Array.getElem?_toList, List.getElem?_eq_getElem (by omega), e])
    have h2 : x ≠ j := fun z => m (z ▸ List.mem_of_mem_drop hx)
    omega
  unfold Rises at h ⊢
  refine List.pairwise_append.mpr ⟨h.sublist (List.take_sublist _ _), List.pairwise_cons.mpr ⟨hc, h.sublist (List.drop_sublist _ _)⟩, fun x hx y hy => ?_⟩
  rcases List.mem_cons.mp hy with rfl | hy
  · exact hb x hx
  · exact Nat.lt_trans (hb x hx) (hc y hy)
theorem slot_free {t : SetTable} (h : Rises t.place.toList) {j : Nat} (e : ∀ i, t.slot j ≠ .live i) : j ∉ t.place.toList := fun m => by
  have := below_mem h m
  unfold SetTable.slot at e
  simp [this] at e
theorem probe_free {t : SetTable} (h : Rises t.place.toList) {ha : Nat → Int} {z : Int} : ∀ (f : Nat) (p : SetTable.Probe) (j : Nat) (dm : Option Nat), (∀ d, p.dummy = some d → d ∉ t.place.toList) → SetTable.probe.go t ha z f p = some (.empty j dm) → j ∉ t.place.toList ∧ ∀ d, dm = some d → d ∉ t.place.toList
  | 0, p, j, dm, _, e => by simp [SetTable.probe.go] at e
  | f + 1, p, j, dm, hp, e => by
    have adv : ∀ q : SetTable.Probe, (t.advance q).dummy = q.dummy := fun q => by
      unfold SetTable.advance
      split <;> rfl
    unfold SetTable.probe.go at e
    cases es : t.slot p.j with
    | empty =>
      rw [es] at e
      cases e
      exact ⟨slot_free h (fun i z => by rw [es] at z; cases z), hp⟩
    | dummy =>
      rw [es] at e
      refine probe_free h f _ j dm (fun d hd => ?_) e
      rw [adv] at hd
      cases hd
      exact slot_free h fun i z => by rw [es] at z; cases z
    | live i =>
      rw [es] at e
      dsimp only at e
      split at e
      · cases e
      · exact probe_free h f _ j dm (fun d hd => hp d (by rw [adv] at hd; exact hd)) e
theorem freeSlot_free {t : SetTable} (h : Rises t.place.toList) {z : Int} {j : Nat} {b : Bool} (e : t.freeSlot z = some (j, b)) : j ∉ t.place.toList := by
  unfold SetTable.freeSlot at e
  split at e
  · rename_i jj dm hq
    injection e with e
    injection e with e1 e2
    obtain ⟨a, c⟩ := probe_free h _ _ _ _ (fun d hd => by simp [SetTable.probeStart] at hd) hq
    subst e1
    cases dm with
    | none => exact a
    | some d => exact c d rfl
  · cases e
def TabOk (led : Bool) (t : SetTable) : Prop := t.led = led ∧ (t.plain = true → Rises t.place.toList)
theorem tab_stand {led : Bool} {t : SetTable} {n : Nat} (h : TabOk led t) : TabOk led (t.standIn n) := ⟨h.1, fun z => by simp [SetTable.standIn] at z⟩
theorem tab_or {led : Bool} {t : SetTable} {n : Nat} (h : TabOk led t) : TabOk led (t.orStandIn n) := by
  unfold SetTable.orStandIn
  split
  · exact h
  · exact tab_stand h
theorem tab_lay {led : Bool} {t : SetTable} (h : TabOk led t) (es : Array (Int × Value)) (z : Int) (x : Value) : TabOk led (layNew t es z x).2.1 := by
  unfold layNew
  split
  · rename_i j b e
    refine tab_or ⟨h.1, fun hp => ?_⟩
    exact rises_insert (h.2 hp) (freeSlot_free (h.2 hp) e)
  · exact tab_stand h
theorem rises_live (n : Nat) (f : Nat → Option Nat) : Rises (((List.range n).filterMap fun j => (f j).map (j, ·)).map (·.1)) := by
  have : List.Sublist (((List.range n).filterMap fun j => (f j).map (j, ·)).map (·.1)) (List.range n) := by
    generalize List.range n = l
    induction l with
    | nil => simp
    | cons a l ih =>
      cases e : f a with
      | none => simp only [List.filterMap_cons, e, Option.map_none]; exact ih.trans (List.sublist_cons_self _ _)
      | some v => simp only [List.filterMap_cons, e, Option.map_some, List.map_cons]; exact ih.cons₂ a
  exact (List.pairwise_lt_range (n := n)).sublist this
theorem tab_relay {led : Bool} {t : SetTable} (h : TabOk led t) (es : Array (Int × Value)) (n : Nat) : TabOk led (relayAll t es n).2.1 := by
  unfold relayAll
  split
  · rename_i t' order e
    dsimp only
    split
    · unfold SetTable.relaid SetTable.laid at e
      simp only [bind, Option.bind] at e
      split at e
      · cases e
      · rename_i ow _
        cases e
        refine ⟨h.1, fun _ => ?_⟩
        dsimp only
        exact rises_live _ _
    · exact tab_stand h
  · exact tab_stand h
end L2
namespace L2
open PySem PySem.Spec PyProof.Rows
section
variable {prog : Program} {w : World}
def ledOf (w : World) : Bool := !w.params.followText "set-order"
def SetG (prog : Program) (w : World) (h : Heap) (a : Addr) (S : Int → Bool) (n : Nat) : Prop :=
  ∃ o es ep t, h.get? a = some o ∧ o.ExactSet ∧ o.data = .set es ep t ∧ ElemsOf (intKind prog w) es.toList ∧ (∀ k, S k = true ↔ ∃ e ∈ es.toList, (intKind prog w).is k e.2 = true) ∧ es.size < scanBound ∧ t.fits es.size = true ∧ es.size = n ∧ TabOk (ledOf w) t
theorem SetG.keep {h h' : Heap} {a : Addr} {S : Int → Bool} {n : Nat} (x : SetG prog w h a S n) (k : ∀ o, h.get? a = some o → h'.get? a = some o) : SetG prog w h' a S n :=
  let ⟨o, es, ep, t, e, r⟩ := x
  ⟨o, es, ep, t, k _ e, r⟩
theorem SetG.congr {h : Heap} {a : Addr} {S S' : Int → Bool} {n n' : Nat} (x : SetG prog w h a S n) (e : ∀ k, S k = S' k) (en : n = n') : SetG prog w h a S' n' := by
  have : S = S' := funext e
  subst this en
  exact x
variable {A : Around} {E : Value → Shared → Prop} {s : Shared}
theorem setG_store {h : Heap} {a : Addr} {o : Obj} {es : Array (Int × Value)} {ep : Nat} {t : SetTable} (ho : h.get? a = some o) (hex : o.ExactSet) (hd : o.data = .set es ep t) {es' : Array (Int × Value)} {t' : SetTable} {S' : Int → Bool}
    (hel : ElemsOf (intKind prog w) es'.toList) (hmem : ∀ k, S' k = true ↔ ∃ e ∈ es'.toList, (intKind prog w).is k e.2 = true) (hb : es'.size < scanBound) (hf : t'.fits es'.size = true) (ht : TabOk (ledOf w) t') :
    (h.update a (Obj.putSet es' t')).get? a = some { o with data := .set es' (ep + 1) t' } ∧ SetG prog w (h.update a (Obj.putSet es' t')) a S' es'.size := by
  have hg := (SetOf_store (knd := intKind prog w) ho hex hd hel hmem hb hf).1
  exact ⟨hg, _, es', ep + 1, t', hg, hex, rfl, hel, hmem, hb, hf, rfl, ht⟩
theorem setG_add {a : Addr} {S : Int → Bool} {n : Nat} {k : Int} {tk : Tok} {Q : Bool → Shared → Prop} (hS : SetG prog w s.heap a S n) (hroom : n + 1 < scanBound)
    (h : ∀ h' b, Heap.SameBut a s.heap h' → SetG prog w h' a (fun k' => S k' || decide (k' = k)) (if S k then n else n + 1) → Q b { s with heap := h' }) :
    wpAny (model prog w) A (setAddHashed a (.int k tk) ((intKind prog w).hash k)) Q E s := by
  have hkey : (intKind prog w).is k (.int k tk) = true := intKind_is _ _ _ _
  have hsc : (Value.int k tk).scannable = true := rfl
  obtain ⟨o, es, ep, t, ho, hex, hd, hel, hmem, hb, hf, rfl, ht⟩ := hS
  unfold setAddHashed setAddHashedIn
  refine wpAny_holding (wpAny_bind (wpAny_setState_of ho hd hf ?_))
  dsimp only
  rw [byScan_of hsc hb hel, if_pos rfl]
  unfold setAddByScan
  refine wpAny_bind (wpAny_bind (wpAny_rule (wpAny_bind (wpAny_setScan_of hkey ho hd hf hel ?_))))
  cases hr : List.findIdx? (fun e => (intKind prog w).is k e.2) es.toList with
  | some j =>
    obtain ⟨hj, hpj, _⟩ := List.findIdx?_eq_some_iff_getElem.mp hr
    have hSk : S k = true := (hmem k).mpr ⟨es.toList[j], List.getElem_mem hj, hpj⟩
    refine wpAny_pure (wpAny_pure ?_)
    have e : s = { s with heap := s.heap } := by cases s; rfl
    rw [e]
    refine h s.heap _ (Heap.SameBut.refl a s.heap) ⟨o, es, ep, t, ho, hex, hd, hel, fun k' => ?_, hb, hf, by rw [if_pos hSk], ht⟩
    rw [Bool.or_eq_true, decide_eq_true_eq, ← hmem k']
    exact ⟨fun z => z.elim id fun z => z ▸ hSk, .inl⟩
  | none =>
    have hSk : ¬ S k = true := fun z => by
      obtain ⟨e, he, hp⟩ := (hmem k).mp z
      have := List.findIdx?_eq_none_iff.mp hr e he
      rw [hp] at this
      cases this
    have hperm := layNew_perm t es ((intKind prog w).hash k) (.int k tk)
    have hfits := layNew_fits t es ((intKind prog w).hash k) (.int k tk)
    have htab := tab_lay ht es ((intKind prog w).hash k) (.int k tk)
    dsimp only
    generalize layNew t es ((intKind prog w).hash k) (.int k tk) = L at hperm hfits htab ⊢
    obtain ⟨es1, t1, wd, gave⟩ := L
    dsimp only at hperm hfits htab ⊢
    rw [Array.toList_push] at hperm
    have hel1 : ElemsOf (intKind prog w) es1.toList := (hel.push hkey hsc).perm hperm
    have hmem1 : ∀ k', (S k' || decide (k' = k)) = true ↔ ∃ e ∈ es1.toList, (intKind prog w).is k' e.2 = true := mem_push_iff hkey hmem hperm
    have hsz1 : es1.size = es.size + 1 := by rw [← Array.length_toList, hperm.length_eq, List.length_append, Array.length_toList]; rfl
    have hb1 : es1.size < scanBound := by omega
    have fin : ∀ h' b, Heap.SameBut a s.heap h' → SetG prog w h' a (fun k' => S k' || decide (k' = k)) es1.size → Q b { s with heap := h' } := fun h' b hsb hS' => h h' b hsb (by rw [if_neg hSk, ← hsz1]; exact hS')
    have hby : hashByValue 8 (.int k tk) = pure true := hashByValue_scannable 8 hsc
    refine wpAny_bind ?_
    have g1 : ∀ (b : Bool) (s₁ : Shared) (Q' : Unit → Shared → Prop), Q' () s₁ → wpAny (model prog w) A (match b with | true => rule "set.scan.the-table-gave-way" | false => pure ()) Q' E s₁ := fun b s₁ Q' hq => by cases b <;> first | exact wpAny_pure hq | exact wpAny_rule hq
    refine g1 gave _ _ ?_
    have tail : ∀ t2 : SetTable, t2.fits es1.size = true → TabOk (ledOf w) t2 → wpAny (model prog w) A (do
        storeSet a es1 t2
        if (!wd && t2.tooFull) = true then do
            (match (relayAll t2 es1 (SetTable.grown es1.size)).2.2 with | true => rule "set.scan.the-table-gave-way" | false => pure ())
            storeSet a (relayAll t2 es1 (SetTable.grown es1.size)).1 (relayAll t2 es1 (SetTable.grown es1.size)).2.1
            pure (some true)
          else pure (some true)) (fun (r : Option Bool) s' => wpAny (model prog w) A (match r with | some added => pure added | none => setAddHashedIn a (.int k tk) ((intKind prog w).hash k) 99999) Q E s') E s := by
      intro t2 hf2 ht2
      obtain ⟨ho1, hS1⟩ := setG_store ho hex hd hel1 hmem1 hb1 hf2 ht2
      have hsb1 := Heap.SameBut.update s.heap a (Obj.putSet es1 t2)
      refine wpAny_bind (wpAny_storeSet_of ho hd ?_ (fits_of_scanBound hb1))
      split
      · have hp := relayAll_perm t2 es1 (SetTable.grown es1.size)
        have hfr := relayAll_fits t2 es1 (SetTable.grown es1.size)
        have htr := tab_relay ht2 es1 (SetTable.grown es1.size)
        generalize relayAll t2 es1 (SetTable.grown es1.size) = Rl at hp hfr htr ⊢
        obtain ⟨es2, t3, gave2⟩ := Rl
        dsimp only at hp hfr htr ⊢
        have hsz : es2.size = es1.size := by rw [← Array.length_toList, hp.length_eq, Array.length_toList]
        have hb2 : es2.size < scanBound := by omega
        refine wpAny_bind (g1 _ _ _ (wpAny_bind (wpAny_storeSet_of ho1 rfl ?_ (fits_of_scanBound hb2))))
        obtain ⟨_, hS2⟩ := setG_store ho1 hex rfl (hel1.perm hp) (fun k' => (hmem1 k').trans ⟨fun ⟨e, he, q⟩ => ⟨e, hp.mem_iff.mpr he, q⟩, fun ⟨e, he, q⟩ => ⟨e, hp.mem_iff.mp he, q⟩⟩) hb2 hfr htr
        rw [hsz] at hS2
        exact wpAny_pure (wpAny_pure (fin _ _ (hsb1.trans (Heap.SameBut.update _ a _)) hS2))
      · exact wpAny_pure (wpAny_pure (fin _ _ hsb1 hS1))
    split
    · refine wpAny_bind ?_
      rw [hby]
      refine wpAny_pure ?_
      refine tail _ ?_ ?_
      · exact hfits
      · exact htab
    · refine wpAny_bind (wpAny_pure ?_)
      exact tail _ hfits htab
end
end L2
namespace L2
open PySem PySem.Spec PyProof.Rows
section
variable {prog : Program} {w : World} {A : Around}
theorem setG_loop {R : Result → Shared → Prop} {I : Addr} {fp wr : List Addr} {G : Array GenState → Array GenState → Prop} {n : Nat} {P : Nat → Value → Prop} {St : Nat → Shared → Prop} (W : WalksS prog w A.in1 I fp wr G n P St) (S : Addr) (hSf : S ∉ fp)
    (val : Nat → Int) (hval : ∀ i v, P i v → ∃ t, v = .int (val i) t) (hb : n + 1 < scanBound) : ∀ (k i : Nat) (s : Shared), n - i = k → i ≤ n → St i s →
      SetG prog w s.heap S (fun k' => (firstMet val i).any (· == k')) (firstMet val i).length →
      (∀ s', Moved (S :: wr) G s s' → SetG prog w s'.heap S (fun k' => (firstMet val n).any (· == k')) (firstMet val n).length → R (.ok (.ret .none)) s') →
      codeAny (model prog w) A (.builtin "set.update.loop" ⟨[.ref S, .ref I], []⟩) R s := by
  have hSw : S ∉ wr := fun h => hSf (W.sub _ h)
  have hsub : ∀ b ∈ wr, b ∈ S :: wr := fun b hb => List.mem_cons_of_mem _ hb
  intro k
  induction k with
  | zero =>
    intro i s hk hi hst hS hR
    obtain rfl : i = n := by omega
    refine codeAny_builtin PyProof.Rows.F.entry_set_update_loop ?_
    rw [Around.under_plainId PyProof.Rows.F.plain_set_update_loop _]
    refine wpAny_bind (m := pyNext (.ref I)) (W.done s _ _ hst fun s' hm => ?_)
    exact wpAny_pure (hR s' (hm.mono hsub) (hS.keep fun o e => hm.heap S _ hSw e))
  | succ k ih =>
    intro i s hk hi hst hS hR
    have hlt : i < n := by omega
    refine codeAny_builtin PyProof.Rows.F.entry_set_update_loop ?_
    rw [Around.under_plainId PyProof.Rows.F.plain_set_update_loop _]
    refine wpAny_bind (m := pyNext (.ref I)) (W.item i s _ _ hlt hst fun v s' hP hst' hm => ?_)
    obtain ⟨t, rfl⟩ := hval i v hP
    have hS' := hS.keep fun o e => hm.heap S _ hSw e
    have hroom : (firstMet val i).length + 1 < scanBound := by have := firstMet_length_le val i; omega
    refine wpAny_bind (m := holding [Value.int (val i) t] (setAdd S (.int (val i) t))) (wpAny_holding ?_)
    unfold setAdd
    refine wpAny_holding (wpAny_bind ((intKind prog w).pyHash (k := val i) (intKind_is _ _ _ _) ?_))
    refine setG_add (s := { s' with toks := s'.toks + 1 }) hS' hroom fun h' b hsb hS2 => ?_
    have hSi : SetG prog w h' S (fun k' => (firstMet val (i + 1)).any (· == k')) (firstMet val (i + 1)).length := hS2.congr (fun k' => by rw [firstMet_succ, step_any]) (by rw [firstMet_succ, step_length])
    refine wpAny_pure ⟨plainId_quiet PyProof.Rows.F.plain_set_update_loop _, ih (i + 1) _ (by omega) hlt (W.frame _ s' _ _ hst' (Nat.le_succ _) fun b hb o e => ?_) hSi fun s'' hm'' hS'' => ?_⟩
    · rw [hsb.2 b (fun h : b = S => hSf (by rw [← h]; exact hb))]; exact e
    · refine hR s'' (Moved.trans W.gtrans ((hm.mono hsub).then_heap (Nat.le_succ _) fun b o hb e => ?_) hm'') hS''
      rw [hsb.2 b (fun h : b = S => hb (by rw [h]; exact List.mem_cons_self))]; exact e
theorem new_setG {a : Value} {E : Value → Shared → Prop} {s : Shared} {Q₁ : Value → Shared → Prop}
    (h : Q₁ (.ref s.heap.objs.size) { s with heap := s.heap.push { cls := .type "set", dict := none, data := .set #[] 0 (.fresh 0 0 (ledOf w)) } }) :
    codeAny (model prog w) A (.call (.builtin "set.__new__") ⟨[.type "set", a], []⟩) (wants Q₁ E) s := by
  refine codeAny_of_tree ?_
  refine wpAny_bind (m := checkBuiltinCall "set.__new__" ⟨[.type "set", a], []⟩) (wpAny_of_eq (PySem.F.newCall_set_1 a) (wpAny_pure ⟨plainId_quiet PySem.F.plain_set_new _, codeAny_builtin PySem.F.entry_set_new ?_⟩))
  rw [Around.under_plainId PySem.F.plain_set_new _]
  unfold Builtin.«set.__new__» Builtin.Frozenset.newClass
  have hsub := sub_set_self
  obtain ⟨hp, g, d, tk, os⟩ := s
  dsimp only
  wp_walk
  refine wpAny_askSetting (wpAny_pure ?_)
  dsimp only
  simp only [newObj]
  refine wpAny_bind (wpAny_alloc (wpAny_pure ?_))
  exact wpAny_pure h
end
end L2
namespace L2
open PySem PySem.Spec PyProof.Rows
section
variable {prog : Program} {w : World} {A : Around} {E : Value → Shared → Prop} {s : Shared}
theorem init_setG {l : Addr} {items : Array Value} {ns : List Int} {s1 : Shared} {S : Addr} {R : Result → Shared → Prop} (hh : A.handled = none) (hl : s1.heap.IsList l items) (hi : IntsAre items.toList ns) (hb : items.size + 1 < scanBound) (hlS : l ≠ S)
    (hS : s1.heap.get? S = some { cls := .type "set", dict := none, data := .set #[] 0 (.fresh 0 0 (ledOf w)) })
    (h : ∀ (h' : Heap) (tk : Nat), SetG prog w h' S (fun k' => (firstMet (fun i => ns.getD i 0) items.size).any (· == k')) (firstMet (fun i => ns.getD i 0) items.size).length →
      (∀ b o, b ≠ S → s1.heap.get? b = some o → h'.get? b = some o) → R (.ok (.ret .none)) { s1 with heap := h', toks := tk }) :
    wpAny (model prog w) A.in1 (Builtin.«set.__init__» ⟨[.ref S, .ref l], []⟩) (fun fin s' => match fin with | .done f => R (.ok f) s' | .again c' => c'.quiet = true ∧ codeAny (model prog w) A c' R s') (fun e s' => R (.error e) s') s1 := by
  have hT : s1.TypeIs (.ref S) "set" := ⟨_, hS, rfl⟩
  have hS0 : SetG prog w s1.heap S (fun _ => false) 0 := ⟨_, #[], 0, _, hS, ⟨rfl, rfl, rfl⟩, rfl, (fun e he => by simp at he), (fun k => by simp), by decide, rfl, rfl, rfl, fun _ => by simp [SetTable.fresh, Rises]⟩
  obtain ⟨ol, hol, hcl, nl, hdl⟩ := id hl
  obtain ⟨ocls, odict, odata, oslots⟩ := ol
  simp only at hcl hdl
  subst hcl hdl
  have hsls := PySem.F.sub_list_set
  have hslf := PySem.F.sub_list_frozenset
  have hne : (Value.type "list" == Value.type "dict") = false := by decide
  have hneS : S ≠ s1.heap.objs.size := Nat.ne_of_lt (Heap.lt_size hS)
  have hneI : l ≠ s1.heap.objs.size := Nat.ne_of_lt (Heap.lt_size hol)
  have hh3 : A.in1.in1.handled = none := by simp [hh]
  have hval : ∀ (i : Nat) (v : Value), items[i]? = some v → ∃ t, v = .int ((fun i => ns.getD i 0) i) t := fun i v hv => IntsAre.int_at hi i v (by rw [Array.getElem?_toList]; exact hv)
  have hSf : S ∉ [s1.heap.objs.size, l] := by
    simp only [List.mem_cons, List.not_mem_nil, or_false, not_or]
    exact ⟨hneS, fun z => hlS z.symm⟩
  unfold Builtin.«set.__init__» noKeywords Builtin.Frozenset.updateFrom
  generalize hPI : pyIter = PI
  wp_walk
  subst hPI
  refine wpAny_pyIter_list hl ?_
  refine wpAny_bind (wpAny_runValue ?_)
  refine setG_loop ((Walks.list hh3 _ l hneI items).toS) S hSf (fun i => ns.getD i 0) hval hb (items.size - 0) 0 _ (by omega) (Nat.zero_le _) ⟨⟨_, Heap.get?_push_size _ rfl, rfl, rfl⟩, hl.push _⟩ (hS0.keep fun o e => Heap.get?_push_of_some _ e) ?_
  intro s' hm hS'
  rw [Moved.eq_with hm]
  refine wpAny_pure (wpAny_pure (h _ _ hS' fun b o hb e => ?_))
  refine hm.heap b o (fun z => ?_) (Heap.get?_push_of_some _ e)
  rcases List.mem_cons.mp z with z | z
  · exact hb z
  · exact absurd (Heap.lt_size e) (by rw [List.mem_singleton.mp z]; exact Nat.lt_irrefl _)
set_option maxHeartbeats 3200000 in
theorem call_setG {l : Addr} {items : Array Value} {ns : List Int} {Q : Value → Shared → Prop} (hh : A.handled = none) (hl : s.heap.IsList l items) (hi : IntsAre items.toList ns) (hb : items.size + 1 < scanBound)
    (h : ∀ (h' : Heap) (tk : Nat), SetG prog w h' s.heap.objs.size (fun k' => (firstMet (fun i => ns.getD i 0) items.size).any (· == k')) (firstMet (fun i => ns.getD i 0) items.size).length →
      (∀ b o, s.heap.get? b = some o → h'.get? b = some o) → Q (.ref s.heap.objs.size) { s with heap := h', toks := tk }) :
    wpAny (model prog w) A (call (.type "set") [.ref l]) Q E s := by
  obtain ⟨c, tl, hmro⟩ := PySem.F.called_set.mro
  have hmade := PySem.F.called_set.made
  have hsub := PySem.F.called_set.sub
  have h1 := PySem.F.called_set.notType
  have h2 := PySem.F.called_set.canCreate
  have hct := PySem.F.typeCall_set_1 (.ref l)
  refine wpAny_call (codeAny_of_tree (wpAny_pure ⟨Code.quiet_builtin _ (by decide +kernel), codeAny_builtin PySem.F.entry_type_call ?_⟩))
  rw [Around.under_plain (weight_type_call_type "set" [.ref l] []) rfl]
  repeat (any_goals (first | assumption | wp_step))
  refine codeAny_mono (new_setG (a := .ref l) (E := E) (Q₁ := fun obj s₁ => obj = .ref s.heap.objs.size ∧ s₁ = { s with heap := s.heap.push { cls := .type "set", dict := none, data := .set #[] 0 (.fresh 0 0 (ledOf w)) } }) ⟨rfl, rfl⟩) fun r s₁ hr => ?_
  match r, hr with
  | .error e, hr => exact hr
  | .ok .next, hr => exact hr.elim
  | .ok .brk, hr => exact hr.elim
  | .ok .cont, hr => exact hr.elim
  | .ok (.ret obj), hr =>
    obtain ⟨rfl, rfl⟩ := hr
    have hS : (s.heap.push { cls := .type "set", dict := none, data := .set #[] 0 (.fresh 0 0 (ledOf w)) }).get? s.heap.objs.size = some { cls := .type "set", dict := none, data := .set #[] 0 (.fresh 0 0 (ledOf w)) } := Heap.get?_push_size _ rfl
    have hT : Shared.TypeIs { s with heap := s.heap.push { cls := .type "set", dict := none, data := .set #[] 0 (.fresh 0 0 (ledOf w)) } } (.ref s.heap.objs.size) "set" := ⟨_, hS, rfl⟩
    have hli := PySem.F.called_set.init.lookup
    have hbi := PySem.F.called_set.init.bind (.ref s.heap.objs.size)
    repeat (any_goals (first | assumption | wp_step))
    have hlt : l < s.heap.objs.size := by obtain ⟨ol, hol, _⟩ := hl; exact Heap.lt_size hol
    refine codeAny_mono (codeAny_call_builtin (R := wants (fun r s₂ => r = .none ∧ ∃ h' tk, s₂ = { s with heap := h', toks := tk } ∧ SetG prog w h' s.heap.objs.size (fun k' => (firstMet (fun i => ns.getD i 0) items.size).any (· == k')) (firstMet (fun i => ns.getD i 0) items.size).length ∧
      (∀ b o, s.heap.get? b = some o → h'.get? b = some o)) E) PySem.F.called_set.init.plain PySem.F.entry_set_init (check_set_init_1 hT ?_)) fun r₂ s₂ hr₂ => ?_
    · refine init_setG (by simp [hh]) (hl.push _) hi hb (Nat.ne_of_lt hlt) hS fun h' tk hS' hk => ⟨rfl, h', tk, rfl, hS', fun b o e => hk b o (Nat.ne_of_lt (Heap.lt_size e)) (Heap.get?_push_of_some _ e)⟩
    · match r₂, hr₂ with
      | .error e, hr => exact hr
      | .ok .next, hr => exact hr.elim
      | .ok .brk, hr => exact hr.elim
      | .ok .cont, hr => exact hr.elim
      | .ok (.ret r), hr =>
        obtain ⟨rfl, h', tk, rfl, hS', hk'⟩ := hr
        repeat (any_goals (first | assumption | wp_step))
        exact h _ _ hS' hk'
end
end L2
namespace L2
open PySem PySem.Spec PyProof.Rows
theorem si_slot_next : Slot "set_iterator" "__next__" "set_iterator.__next__" :=
  .of (owner := "set_iterator") (n := "__next__") (by rw [typeLookup_type, builtinLookup_eq_fast]; kernel_rfl) (by decide +kernel) (by decide +kernel) (by decide +kernel) (by first | exact .inl (by decide +kernel) | exact .inr (by decide +kernel)) (by rw [isSubtype_type]; kernel_rfl)
theorem si_slot_iter : Slot "set_iterator" "__iter__" "set_iterator.__iter__" :=
  .of (owner := "set_iterator") (n := "__iter__") (by rw [typeLookup_type, builtinLookup_eq_fast]; kernel_rfl) (by decide +kernel) (by decide +kernel) (by decide +kernel) (by first | exact .inl (by decide +kernel) | exact .inr (by decide +kernel)) (by rw [isSubtype_type]; kernel_rfl)
theorem si_entry_next : entryFor table "set_iterator.__next__" = some Builtin.«set_iterator.__next__» := entryFor_of_tree (by kernel_rfl)
theorem si_entry_iter : entryFor table "set_iterator.__iter__" = some Builtin.«dict_keyiterator.__iter__» := entryFor_alias (id' := "dict_keyiterator.__iter__") (by kernel_rfl) rfl (by decide +kernel) (by kernel_rfl)
theorem si_entry_set : entryFor table "set.__iter__" = some Builtin.«frozenset.__iter__» := entryFor_alias (id' := "frozenset.__iter__") (by kernel_rfl) rfl (by decide +kernel) (by kernel_rfl)
theorem si_owner : Manifest.owners.lookup (String.ofList ['r', 'o', 't', 'a', 'r', 'e', 't', 'i', '_', 't', 'e', 's'].reverse) = some Manifest.sig_set_iterator := by kernel_rfl
theorem si_args_next (a : Value) : argsOk "set_iterator.__next__" ⟨[a], []⟩ := by
  unfold argsOk; rw [signature?_of (id := "set_iterator.__next__") (n := ['_', '_', 't', 'x', 'e', 'n', '_', '_']) (o := ['r', 'o', 't', 'a', 'r', 'e', 't', 'i', '_', 't', 'e', 's']) (by kernel_rfl) si_owner]; kernel_rfl
theorem si_args_iter (a : Value) : argsOk "set_iterator.__iter__" ⟨[a], []⟩ := by
  unfold argsOk; rw [signature?_of (id := "set_iterator.__iter__") (n := ['_', '_', 'r', 'e', 't', 'i', '_', '_']) (o := ['r', 'o', 't', 'a', 'r', 'e', 't', 'i', '_', 't', 'e', 's']) (by kernel_rfl) si_owner]; kernel_rfl
theorem erase_perm {α : Type} : ∀ {l : List α} {i : Nat} (h : i < l.length), List.Perm (l[i] :: l.eraseIdx i) l
  | a :: l, 0, _ => .refl _
  | a :: l, i + 1, h => by
    have ih := erase_perm (l := l) (i := i) (by simpa using h)
    simp only [List.getElem_cons_succ, List.eraseIdx_cons_succ]
    exact (List.Perm.swap _ _ _).trans (ih.cons a)
theorem pick_go {α : Type} (nx : Nat → Nat) : ∀ (f k : Nat) (left : List α) (out : Array α), left.length = f → List.Perm (pickOrder.go nx f k left out).toList (out.toList ++ left)
  | 0, k, left, out, h => by
    have : left = [] := List.eq_nil_of_length_eq_zero h
    subst this
    simp [pickOrder.go]
  | f + 1, k, left, out, h => by
    have hl : nx k % left.length < left.length := Nat.mod_lt _ (by omega)
    unfold pickOrder.go
    rw [List.getElem?_eq_getElem hl]
    dsimp only
    refine (pick_go nx f (k + 1) _ _ (by rw [List.length_eraseIdx, if_pos hl]; omega)).trans ?_
    rw [Array.toList_push, List.append_assoc]
    refine List.Perm.append_left _ ?_
    exact (erase_perm hl)
theorem pick_perm {α : Type} (nx : Nat → Nat) (xs : Array α) : List.Perm (pickOrder nx xs).toList xs.toList := by
  have := pick_go nx xs.size 0 xs.toList #[] (by simp)
  simpa [pickOrder] using this
section
variable {prog : Program} {w : World} {A : Around} {E : Value → Shared → Prop}
theorem draw_perm {α : Type} : ∀ (n : Nat) (xs : List α) (s : Shared) {Q : List α → Shared → Prop}, xs.length = n → (∀ l d', List.Perm l xs → Q l { s with drawn := d' }) → wpAny (model prog w) A (drawOrder n xs) Q E s
  | 0, xs, s, Q, hl, h => by
    have : xs = [] := List.eq_nil_of_length_eq_zero hl
    subst this
    exact wpAny_pure (h [] s.drawn (.refl _))
  | n + 1, [], s, Q, hl, h => by simp at hl
  | n + 1, x :: xs, s, Q, hl, h => by
    unfold drawOrder
    refine wpAny_bind (m := choose .order (x :: xs).length) ?_
    intro Γ p hΓ
    refine ⟨by simp, ?_⟩
    have hi : (model prog w).w.draws .order (s.drawn.get .order) % (x :: xs).length < (x :: xs).length := Nat.mod_lt _ (by simp)
    generalize (model prog w).w.draws .order (s.drawn.get .order) % (x :: xs).length = i at hi
    show wpAny (model prog w) A _ _ _ _
    rw [List.getElem?_eq_getElem hi]
    refine wpAny_bind (draw_perm n _ _ (by rw [List.length_eraseIdx, if_pos hi]; omega) fun l d' hp => ?_)
    refine wpAny_pure (h _ d' ?_)
    exact (hp.cons _).trans (erase_perm hi)
end
end L2
namespace L2
open PySem PySem.Spec PyProof.Rows
def SetAt (h : Heap) (S : Addr) (es : Array (Int × Value)) (ep : Nat) (t : SetTable) : Prop := ∃ o, h.get? S = some o ∧ o.ExactSet ∧ o.data = .set es ep t
theorem SetAt.keep {h h' : Heap} {S : Addr} {es : Array (Int × Value)} {ep : Nat} {t : SetTable} (x : SetAt h S es ep t) (k : ∀ o, h.get? S = some o → h'.get? S = some o) : SetAt h' S es ep t := let ⟨o, e, r⟩ := x; ⟨o, k _ e, r⟩
def SetIt (h : Heap) (I : Addr) (first : Value) (i : Nat) (S : Addr) (n ep : Nat) : Prop := ∃ o, h.get? I = some o ∧ o.cls = .type "set_iterator" ∧ o.data = .fields #[first, .int i 0, .ref S, .int n 0, .int ep 0]
theorem SetIt.keep {h h' : Heap} {I : Addr} {first : Value} {i : Nat} {S : Addr} {n ep : Nat} (x : SetIt h I first i S n ep) (k : ∀ o, h.get? I = some o → h'.get? I = some o) : SetIt h' I first i S n ep := let ⟨o, e, r⟩ := x; ⟨o, k _ e, r⟩
theorem SetIt.typeIs {s : Shared} {I : Addr} {first : Value} {i : Nat} {S : Addr} {n ep : Nat} (x : SetIt s.heap I first i S n ep) : s.TypeIs (.ref I) "set_iterator" := let ⟨o, e, c, _⟩ := x; ⟨o, e, c⟩
section
variable {prog : Program} {w : World} {A : Around} {E : Value → Shared → Prop} {s : Shared} {I S : Addr} {i ep slot : Nat} {es : Array (Int × Value)} {t : SetTable}
theorem si_self {first : Value} {n : Nat} {Q : Value → Shared → Prop} (hit : SetIt s.heap I first i S n ep) (h : Q (.ref I) s) : wpAny (model prog w) A (pyIter (.ref I)) Q E s := by
  refine wpAny_pyIter_slot hit.typeIs si_slot_iter (wpAny_call_entry si_slot_iter hit.typeIs si_entry_iter ?_ (si_args_iter _))
  show wpAny _ _ (ret (.ref I)) _ _ s
  exact wpAny_pure ⟨_, rfl, "set_iterator", _, hit.typeIs, si_slot_next.lookup, h⟩
theorem si_item {x : Value} {nx : Nat} {Q : Option Value → Shared → Prop} (hit : SetIt s.heap I (.int slot 0) i S es.size ep) (hs : SetAt s.heap S es ep t) (hf : t.fits es.size = true)
    (hx : ∀ (A : Around) (E : Value → Shared → Prop) (Q : Option (Value × Nat) → Shared → Prop), Q (some (x, nx)) s → wpAny (model prog w) A (setNext S slot i ep) Q E s)
    (hQ : ∀ h', SetIt h' I (.int nx 0) (i + 1) S es.size ep → Heap.SameBut I s.heap h' → Q (some x) { s with heap := h' }) : wpAny (model prog w) A (pyNext (.ref I)) Q E s := by
  obtain ⟨o, ho, hc, hd⟩ := id hit
  obtain ⟨oS, hoS, hex, hdS⟩ := id hs
  unfold pyNext
  refine wpAny_bind (wpAny_attempt (wpAny_callSpecial?_slot (name := Str.ofString "__next__") hit.typeIs si_slot_next (wpAny_call_entry si_slot_next hit.typeIs si_entry_next ?_ (si_args_next _))))
  unfold Builtin.«set_iterator.__next__»
  refine wpAny_bind (wpAny_pure ?_)
  refine wpAny_bind (wpAny_fieldsOf ho hd ?_)
  dsimp only
  unfold setEntries
  refine wpAny_bind (wpAny_bind (wpAny_setState_of hoS hdS hf (wpAny_pure ?_)))
  rw [if_neg (by simp)]
  refine wpAny_bind (hx _ _ _ ?_)
  dsimp only
  refine wpAny_bind (wpAny_setField ho hd (by simp) ?_)
  have ho2 := Heap.get?_update_self (Obj.mapFields (·.setIfInBounds 0 (rawInt nx))) ho (Obj.isFreed_of_fields (Obj.data_mapFields hd _))
  have hd2 := Obj.data_mapFields hd (·.setIfInBounds 0 (rawInt nx))
  refine wpAny_bind (wpAny_setField ho2 hd2 (by simp) ?_)
  have ho3 := Heap.get?_update_self (Obj.mapFields (·.setIfInBounds 1 (rawInt ((i : Int) + 1)))) ho2 (Obj.isFreed_of_fields (Obj.data_mapFields hd2 _))
  have hd3 := Obj.data_mapFields hd2 (·.setIfInBounds 1 (rawInt ((i : Int) + 1)))
  exact wpAny_pure ⟨_, rfl, wpAny_pure (hQ _ ⟨_, ho3, (Obj.cls_mapFields ..).trans ((Obj.cls_mapFields ..).trans hc), by rw [hd3]; simp [rawInt]⟩ ((Heap.SameBut.update ..).trans (Heap.SameBut.update ..)))⟩
theorem si_end {Q : Option Value → Shared → Prop} (hh : A.handled = none) (hit : SetIt s.heap I (.int slot 0) i S es.size ep) (hs : SetAt s.heap S es ep t) (hf : t.fits es.size = true)
    (hx : ∀ (A : Around) (E : Value → Shared → Prop) (Q : Option (Value × Nat) → Shared → Prop), Q none s → wpAny (model prog w) A (setNext S slot i ep) Q E s)
    (hQ : ∀ h', Heap.ExtBut I s.heap h' → Q none { s with heap := h' }) : wpAny (model prog w) A (pyNext (.ref I)) Q E s := by
  obtain ⟨o, ho, hc, hd⟩ := id hit
  obtain ⟨oS, hoS, hex, hdS⟩ := id hs
  unfold pyNext
  refine wpAny_bind (wpAny_attempt (wpAny_callSpecial?_slot (name := Str.ofString "__next__") hit.typeIs si_slot_next (wpAny_call_entry si_slot_next hit.typeIs si_entry_next ?_ (si_args_next _))))
  unfold Builtin.«set_iterator.__next__»
  refine wpAny_bind (wpAny_pure ?_)
  refine wpAny_bind (wpAny_fieldsOf ho hd ?_)
  dsimp only
  unfold setEntries
  refine wpAny_bind (wpAny_bind (wpAny_setState_of hoS hdS hf (wpAny_pure ?_)))
  rw [if_neg (by simp)]
  refine wpAny_bind (hx _ _ _ ?_)
  dsimp only
  refine wpAny_bind (wpAny_setField ho hd (by simp) ?_)
  refine wpAny_bind ?_
  simp only [newExc, newTuple]
  refine wpAny_bind (wpAny_newObj_type ?_ (by size_fits))
  refine wpAny_bind (m := firstArgMember _ _) (wpAny_of_eq (a := Value.none) (by first | rfl | (simp only [firstArgMember]; rfl)) ?_)
  refine wpAny_newObj_type ?_ (by size_fits)
  simp only [raiseNew]
  refine wpAny_bind (wpAny_handled ?_)
  rw [show A.in1.handled = none from hh]
  refine wpAny_bind (wpAny_pure (wpAny_throw ?_))
  refine wpAny_bind (wpAny_isInstance (T := "StopIteration") (b := true) ⟨_, Heap.get?_push_size _ rfl, rfl⟩ isSubtype_stop ?_)
  exact wpAny_pure (hQ _ (((Heap.SameBut.update ..).extBut.push _).push _))
end
end L2
namespace L2
open PySem PySem.Spec PyProof.Rows
def PlT (h : Heap) (T : Addr) (ps : List Nat) : Prop := ∃ o n, h.get? T = some o ∧ o.data = .seq (ps.map fun (i : Nat) => rawInt i).toArray n
theorem PlT.keep {h h' : Heap} {T : Addr} {ps : List Nat} (x : PlT h T ps) (k : ∀ o, h.get? T = some o → h'.get? T = some o) : PlT h' T ps := let ⟨o, n, e, r⟩ := x; ⟨o, n, k _ e, r⟩
section
variable {prog : Program} {w : World} {A : Around} {E : Value → Shared → Prop} {s : Shared} {I S T : Addr} {i ep : Nat} {es : Array (Int × Value)} {t : SetTable} {ps : List Nat}
theorem si_itemD {x : Value} {z : Int} {p : Nat} {Q : Option Value → Shared → Prop} (hit : SetIt s.heap I (.ref T) i S es.size ep) (hs : SetAt s.heap S es ep t) (hf : t.fits es.size = true) (hT : PlT s.heap T ps) (hp : ps[i]? = some p) (hx : es[p]? = some (z, x))
    (hQ : ∀ h', SetIt h' I (.ref T) (i + 1) S es.size ep → Heap.SameBut I s.heap h' → Q (some x) { s with heap := h' }) : wpAny (model prog w) A (pyNext (.ref I)) Q E s := by
  obtain ⟨o, ho, hc, hd⟩ := id hit
  obtain ⟨oS, hoS, hex, hdS⟩ := id hs
  obtain ⟨oT, nT, hoT, hdT⟩ := id hT
  unfold pyNext
  refine wpAny_bind (wpAny_attempt (wpAny_callSpecial?_slot (name := Str.ofString "__next__") hit.typeIs si_slot_next (wpAny_call_entry si_slot_next hit.typeIs si_entry_next ?_ (si_args_next _))))
  unfold Builtin.«set_iterator.__next__»
  refine wpAny_bind (wpAny_pure ?_)
  refine wpAny_bind (wpAny_fieldsOf ho hd ?_)
  dsimp only
  unfold setEntries
  refine wpAny_bind (wpAny_bind (wpAny_setState_of hoS hdS hf (wpAny_pure ?_)))
  rw [if_neg (by simp)]
  refine wpAny_bind (wpAny_seqItems hoT hdT ?_)
  have hg : (ps.map fun (i : Nat) => rawInt i).toArray[(i : Int).toNat]? = some (.int p 0) := by simp [hp, rawInt]
  dsimp only
  rw [hg]
  dsimp only
  unfold setNextDrawn
  refine wpAny_bind (wpAny_bind (wpAny_setState_of hoS hdS hf ?_))
  dsimp only
  rw [if_neg (by simp)]
  rw [show es[(p : Int).toNat]? = some (z, x) from hx]
  refine wpAny_pure ?_
  refine wpAny_bind (wpAny_setField ho hd (by simp) ?_)
  have ho3 := Heap.get?_update_self (Obj.mapFields (·.setIfInBounds 1 (rawInt ((i : Int) + 1)))) ho (Obj.isFreed_of_fields (Obj.data_mapFields hd _))
  have hd3 := Obj.data_mapFields hd (·.setIfInBounds 1 (rawInt ((i : Int) + 1)))
  exact wpAny_pure ⟨_, rfl, wpAny_pure (hQ _ ⟨_, ho3, (Obj.cls_mapFields ..).trans hc, by rw [hd3]; simp [rawInt]⟩ (Heap.SameBut.update ..))⟩
theorem si_endD {Q : Option Value → Shared → Prop} (hh : A.handled = none) (hit : SetIt s.heap I (.ref T) i S es.size ep) (hs : SetAt s.heap S es ep t) (hf : t.fits es.size = true) (hT : PlT s.heap T ps) (hp : ps[i]? = none)
    (hQ : ∀ h', Heap.ExtBut I s.heap h' → Q none { s with heap := h' }) : wpAny (model prog w) A (pyNext (.ref I)) Q E s := by
  obtain ⟨o, ho, hc, hd⟩ := id hit
  obtain ⟨oS, hoS, hex, hdS⟩ := id hs
  obtain ⟨oT, nT, hoT, hdT⟩ := id hT
  unfold pyNext
  refine wpAny_bind (wpAny_attempt (wpAny_callSpecial?_slot (name := Str.ofString "__next__") hit.typeIs si_slot_next (wpAny_call_entry si_slot_next hit.typeIs si_entry_next ?_ (si_args_next _))))
  unfold Builtin.«set_iterator.__next__»
  refine wpAny_bind (wpAny_pure ?_)
  refine wpAny_bind (wpAny_fieldsOf ho hd ?_)
  dsimp only
  unfold setEntries
  refine wpAny_bind (wpAny_bind (wpAny_setState_of hoS hdS hf (wpAny_pure ?_)))
  rw [if_neg (by simp)]
  refine wpAny_bind (wpAny_seqItems hoT hdT ?_)
  have hg : (ps.map fun (i : Nat) => rawInt i).toArray[(i : Int).toNat]? = none := by
    have := List.getElem?_eq_none_iff.mp hp
    simp [this]
  dsimp only
  rw [hg]
  dsimp only
  refine wpAny_bind (wpAny_setField ho hd (by simp) ?_)
  have ho2 := Heap.get?_update_self (Obj.mapFields (·.setIfInBounds 0 (rawInt 0))) ho (Obj.isFreed_of_fields (Obj.data_mapFields hd _))
  have hd2 := Obj.data_mapFields hd (·.setIfInBounds 0 (rawInt 0))
  refine wpAny_bind (wpAny_setField ho2 hd2 (by simp) ?_)
  refine wpAny_bind ?_
  simp only [newExc, newTuple]
  refine wpAny_bind (wpAny_newObj_type ?_ (by size_fits))
  refine wpAny_bind (m := firstArgMember _ _) (wpAny_of_eq (a := Value.none) (by first | rfl | (simp only [firstArgMember]; rfl)) ?_)
  refine wpAny_newObj_type ?_ (by size_fits)
  simp only [raiseNew]
  refine wpAny_bind (wpAny_handled ?_)
  rw [show A.in1.handled = none from hh]
  refine wpAny_bind (wpAny_pure (wpAny_throw ?_))
  refine wpAny_bind (wpAny_isInstance (T := "StopIteration") (b := true) ⟨_, Heap.get?_push_size _ rfl, rfl⟩ isSubtype_stop ?_)
  exact wpAny_pure (hQ _ ((((Heap.SameBut.update ..).trans (Heap.SameBut.update ..)).extBut.push _).push _))
theorem next_text {Q : Option (Value × Nat) → Shared → Prop} (hbt : w.params.followText "set-order" = true) (hs : SetAt s.heap S es ep t) (hf : t.fits es.size = true)
    (h : Q (((pickOrder (w.params.setOrder S ep) es)[i]?).map fun e => (e.2, 0)) s) : wpAny (model prog w) A (setNext S 0 i ep) Q E s := by
  obtain ⟨oS, hoS, hex, hdS⟩ := id hs
  unfold setNext setsByText
  refine wpAny_bind (wpAny_setState_of hoS hdS hf ?_)
  refine wpAny_bind (wpAny_bind (wpAny_askSetting (wpAny_pure ?_)))
  rw [if_pos (show (model prog w).w.params.followText "set-order" = true from hbt)]
  rw [if_neg (by simp)]
  unfold setWalk setsByText
  refine wpAny_bind (wpAny_bind (wpAny_setState_of hoS hdS hf ?_))
  refine wpAny_bind (wpAny_bind (wpAny_askSetting (wpAny_pure ?_)))
  rw [if_pos (show (model prog w).w.params.followText "set-order" = true from hbt)]
  refine wpAny_bind (wpAny_askSetting ?_)
  exact wpAny_pure (wpAny_pure h)
theorem next_plain {slot : Nat} {Q : Option (Value × Nat) → Shared → Prop} (hbt : w.params.followText "set-order" = false) (hs : SetAt s.heap S es ep t) (hf : t.fits es.size = true) (ht : TabOk (ledOf w) t) (hp : t.plain = true ∨ es.size ≤ 1)
    (h : Q (match es[SetTable.below t.place slot]?, t.place[SetTable.below t.place slot]? with | some (_, x), some j => some (x, j + 1) | _, _ => none) s) : wpAny (model prog w) A (setNext S slot i ep) Q E s := by
  obtain ⟨oS, hoS, hex, hdS⟩ := id hs
  have hl : t.led = true := by rw [ht.1]; unfold ledOf; rw [hbt]; rfl
  unfold setNext setsByText
  refine wpAny_bind (wpAny_setState_of hoS hdS hf ?_)
  refine wpAny_bind (wpAny_bind (wpAny_askSetting (wpAny_pure ?_)))
  rw [if_neg (show ¬ (model prog w).w.params.followText "set-order" = true by rw [show (model prog w).w.params.followText "set-order" = false from hbt]; decide)]
  refine wpAny_ite_split (fun hab => ?_) (fun _ => ?_)
  · have z : (!t.plain && decide (es.size > 1)) = true := hab
    simp only [Bool.and_eq_true, Bool.not_eq_true', decide_eq_true_eq] at z
    rcases hp with y | y
    · rw [y] at z; exact absurd z.1 (by decide)
    · exact absurd z.2 (by omega)
  refine wpAny_bind ?_
  show wpAny _ _ (if (!t.led && !es.isEmpty) = true then _ else _) _ _ _
  rw [if_neg (by rw [hl]; simp)]
  exact wpAny_pure (wpAny_pure h)
end
end L2
namespace L2
open PySem PySem.Spec PyProof.Rows
section
variable {prog : Program} {w : World} {A : Around} {I S T : Addr} {ep : Nat} {es : Array (Int × Value)} {t : SetTable} {ps : List Nat}
theorem walk_text (hh : A.handled = none) (hne : S ≠ I) (hbt : w.params.followText "set-order" = true) (hf : t.fits es.size = true) :
    Walks prog w A I [I, S] [I] es.size (fun i v => ∃ z, (pickOrder (w.params.setOrder S ep) es).toList[i]? = some (z, v)) (fun i h => SetIt h I (.int 0 0) i S es.size ep ∧ SetAt h S es ep t) where
  sub := fun b hb => by simp at hb; simp [hb]
  frame := fun _ _ _ st hk => ⟨st.1.keep fun o e => hk I (by simp) o e, st.2.keep fun o e => hk S (by simp) o e⟩
  item := fun i s Q E hi st hQ => by
    have hl : (pickOrder (w.params.setOrder S ep) es).size = es.size := by rw [← Array.length_toList, (pick_perm _ _).length_eq, Array.length_toList]
    obtain ⟨⟨z, x⟩, hx⟩ : ∃ p, (pickOrder (w.params.setOrder S ep) es)[i]? = some p := ⟨(pickOrder (w.params.setOrder S ep) es)[i]'(by omega), by simp [hl, hi]⟩
    refine si_item (x := x) (nx := 0) (slot := 0) st.1 st.2 hf (fun A E Q q => next_text hbt st.2 hf (by rw [hx]; exact q)) fun h' hit hsb => ?_
    exact hQ x h' s.toks ⟨z, by rw [Array.getElem?_toList]; exact hx⟩ ⟨hit, st.2.keep fun o e => (hsb.2 S hne).trans e⟩ fun b o hb e => (hsb.2 b fun z => hb (by simp [z])).trans e
  done := fun s Q E st hQ => by
    have hl : (pickOrder (w.params.setOrder S ep) es).size = es.size := by rw [← Array.length_toList, (pick_perm _ _).length_eq, Array.length_toList]
    refine si_end (slot := 0) hh st.1 st.2 hf (fun A E Q q => next_text hbt st.2 hf (by rw [Array.getElem?_eq_none (by omega)]; exact q)) fun h' he => ?_
    exact hQ h' s.toks fun b o hb e => he b o (fun z => hb (by simp [z])) e
  self := fun _ _ _ _ st hQ => si_self st.1 hQ
def slotN (t : SetTable) (i : Nat) : Nat := if i = 0 then 0 else t.place.getD (i - 1) 0 + 1
theorem slotN_below (h : Rises t.place.toList) {i : Nat} (hi : i ≤ t.place.size) : SetTable.below t.place (slotN t i) = i := by
  unfold slotN
  split
  · rename_i e
    rw [e]
    exact below_zero h
  · rename_i e
    have hk : i - 1 < t.place.size := by omega
    have e1 : t.place[i - 1]? = some (t.place.getD (i - 1) 0) := by simp [Array.getD, hk]
    rw [below_next h e1]
    omega
theorem walk_plain (hh : A.handled = none) (hne : S ≠ I) (hbt : w.params.followText "set-order" = false) (hf : t.fits es.size = true) (ht : TabOk (ledOf w) t) (hp : t.plain = true ∨ es.size ≤ 1) :
    Walks prog w A I [I, S] [I] es.size (fun i v => ∃ z, es.toList[i]? = some (z, v)) (fun i h => SetIt h I (.int (slotN t i) 0) i S es.size ep ∧ SetAt h S es ep t) where
  sub := fun b hb => by simp at hb; simp [hb]
  frame := fun _ _ _ st hk => ⟨st.1.keep fun o e => hk I (by simp) o e, st.2.keep fun o e => hk S (by simp) o e⟩
  item := fun i s Q E hi st hQ => by
    have hz : t.place.size = es.size := by
      simp only [SetTable.fits, Bool.and_eq_true, beq_iff_eq] at hf
      exact hf.1
    have hr : Rises t.place.toList := by
      rcases hp with y | y
      · exact ht.2 y
      · have : t.place.toList.length ≤ 1 := by rw [Array.length_toList]; omega
        unfold Rises
        match h : t.place.toList, this with
        | [], _ => exact .nil
        | [_], _ => exact List.pairwise_singleton _ _
    obtain ⟨⟨z, x⟩, hx⟩ : ∃ p, es[i]? = some p := ⟨es[i], by simp [hi]⟩
    have hj : t.place[i]? = some (t.place.getD i 0) := by simp [Array.getD, hz, hi]
    refine si_item (x := x) (nx := slotN t (i + 1)) (slot := slotN t i) st.1 st.2 hf (fun A E Q q => next_plain hbt st.2 hf ht hp (by rw [slotN_below hr (by omega), hx, hj]; exact q)) fun h' hit hsb => ?_
    exact hQ x h' s.toks ⟨z, by rw [Array.getElem?_toList]; exact hx⟩ ⟨hit, st.2.keep fun o e => (hsb.2 S hne).trans e⟩ fun b o hb e => (hsb.2 b fun z => hb (by simp [z])).trans e
  done := fun s Q E st hQ => by
    have hz : t.place.size = es.size := by
      simp only [SetTable.fits, Bool.and_eq_true, beq_iff_eq] at hf
      exact hf.1
    have hr : Rises t.place.toList := by
      rcases hp with y | y
      · exact ht.2 y
      · have : t.place.toList.length ≤ 1 := by rw [Array.length_toList]; omega
        unfold Rises
        match h : t.place.toList, this with
        | [], _ => exact .nil
        | [_], _ => exact List.pairwise_singleton _ _
    refine si_end (slot := slotN t es.size) hh st.1 st.2 hf (fun A E Q q => next_plain hbt st.2 hf ht hp (by rw [slotN_below hr (by omega), Array.getElem?_eq_none (Nat.le_refl _)]; exact q)) fun h' he => ?_
    exact hQ h' s.toks fun b o hb e => he b o (fun z => hb (by simp [z])) e
  self := fun _ _ _ _ st hQ => si_self st.1 hQ
theorem fm_map {es : Array (Int × Value)} : ∀ {ps : List Nat}, (∀ k ∈ ps, k < es.size) → ps.filterMap (fun k => es[k]?) = ps.map fun k => es.getD k (0, .none)
  | [], _ => rfl
  | k :: ps, h => by
    have hk := h k (by simp)
    have ih := fm_map (es := es) (ps := ps) fun x hx => h x (by simp [hx])
    rw [List.filterMap_cons, Array.getElem?_eq_getElem hk, ih, List.map_cons]
    simp [Array.getD, hk]
theorem walk_drawn (hh : A.handled = none) (hne : S ≠ I) (hTI : T ≠ I) (hf : t.fits es.size = true) (hp : List.Perm ps (List.range es.size)) :
    Walks prog w A I [I, S, T] [I] es.size (fun i v => ∃ z, (ps.filterMap fun k => es[k]?)[i]? = some (z, v)) (fun i h => SetIt h I (.ref T) i S es.size ep ∧ SetAt h S es ep t ∧ PlT h T ps) where
  sub := fun b hb => by simp at hb; simp [hb]
  frame := fun _ _ _ st hk => ⟨st.1.keep fun o e => hk I (by simp) o e, st.2.1.keep fun o e => hk S (by simp) o e, st.2.2.keep fun o e => hk T (by simp) o e⟩
  item := fun i s Q E hi st hQ => by
    have hl : ps.length = es.size := by rw [hp.length_eq, List.length_range]
    have hps : ps[i]? = some (ps[i]'(by omega)) := List.getElem?_eq_getElem _
    have hlt : ps[i]'(by omega) < es.size := List.mem_range.mp (hp.mem_iff.mp (List.getElem_mem _))
    generalize ps[i]'(by omega) = p at hps hlt
    obtain ⟨⟨z, x⟩, hx⟩ : ∃ q, es[p]? = some q := ⟨es[p], by simp [hlt]⟩
    have hfm : (ps.filterMap fun k => es[k]?)[i]? = some (z, x) := by
      have e := fm_map (es := es) (ps := ps) fun k hk => List.mem_range.mp (hp.mem_iff.mp hk)
      rw [e, List.getElem?_map, hps]
      simp [Array.getD, hlt]
      have := hx
      rw [Array.getElem?_eq_getElem hlt] at this
      exact Option.some.inj this
    refine si_itemD (x := x) st.1 st.2.1 hf st.2.2 hps hx fun h' hit hsb => ?_
    exact hQ x h' s.toks ⟨z, hfm⟩ ⟨hit, st.2.1.keep fun o e => (hsb.2 S hne).trans e, st.2.2.keep fun o e => (hsb.2 T hTI).trans e⟩ fun b o hb e => (hsb.2 b fun z => hb (by simp [z])).trans e
  done := fun s Q E st hQ => by
    have hl : ps.length = es.size := by rw [hp.length_eq, List.length_range]
    refine si_endD hh st.1 st.2.1 hf st.2.2 (List.getElem?_eq_none (by omega)) fun h' he => ?_
    exact hQ h' s.toks fun b o hb e => he b o (fun z => hb (by simp [z])) e
  self := fun _ _ _ _ st hQ => si_self st.1 hQ
end
end L2
namespace L2
open PySem PySem.Spec PyProof.Rows
section
variable {prog : Program} {w : World} {A : Around} {E : Value → Shared → Prop} {s : Shared} {S : Addr} {ep : Nat} {es : Array (Int × Value)} {t : SetTable}
theorem set_iter {Q : Value → Shared → Prop} (hh : A.handled = none) (hs : SetAt s.heap S es ep t) (hf : t.fits es.size = true) (ht : TabOk (ledOf w) t) (hz : es.size < scanBound)
    (h : ∀ (I : Addr) (fp : List Addr) (order : List (Int × Value)) (St : Nat → Heap → Prop) (h' : Heap) (d' : Drawn), List.Perm order es.toList → Walks prog w A I fp [I] es.size (fun i v => ∃ z, order[i]? = some (z, v)) St → St 0 h' →
      (∀ b o, s.heap.get? b = some o → h'.get? b = some o) → (∀ b ∈ fp, b = S ∨ s.heap.objs.size ≤ b) → s.heap.objs.size ≤ I → Q (.ref I) { s with heap := h', drawn := d' }) : wpAny (model prog w) A (pyIter (.ref S)) Q E s := by
  obtain ⟨oS, hoS, hex, hdS⟩ := id hs
  have hT : s.TypeIs (.ref S) "set" := ⟨_, hoS, hex.1⟩
  have hlt : S < s.heap.objs.size := Heap.lt_size hoS
  refine wpAny_pyIter_slot hT PySem.F.slot_set_iter (wpAny_call_entry PySem.F.slot_set_iter hT si_entry_set ?_ (PySem.F.args_set_iter_1 _))
  unfold Builtin.«frozenset.__iter__» Builtin.Frozenset.slot0 Builtin.Frozenset.sizeOf setEntries setDrawn setsByText
  refine wpAny_bind (wpAny_bind (wpAny_pure (wpAny_pure ?_)))
  refine wpAny_bind (wpAny_bind (wpAny_bind (wpAny_setState_of hoS hdS hf (wpAny_pure (wpAny_pure ?_)))))
  refine wpAny_bind (wpAny_bind (wpAny_setState_of hoS hdS hf ?_))
  refine wpAny_bind (wpAny_bind (wpAny_askSetting (wpAny_pure ?_)))
  refine wpAny_pure ?_
  refine wpAny_ite_split (fun hab => ?_) (fun hab => ?_)
  · refine wpAny_bind (draw_perm es.size (List.range es.size) s List.length_range fun ps d' hp => ?_)
    have hpl : ps.length = es.size := by rw [hp.length_eq, List.length_range]
    refine wpAny_bind (wpAny_newObj_type ?_ (by show (ps.map _).toArray.size ≤ sizeLine; simp only [List.size_toArray, List.length_map, hpl]; exact fits_of_scanBound hz))
    refine wpAny_bind (wpAny_setEpoch_of (Heap.get?_push_of_some _ hoS) hdS hf ?_)
    refine wpAny_bind (wpAny_newObj_type ?_ (by size_fits))
    refine wpAny_pure ⟨_, rfl, "set_iterator", _, ⟨_, Heap.get?_push_size _ rfl, rfl⟩, si_slot_next.lookup, ?_⟩
    have sz1 : s.heap.objs.size < (s.heap.push { cls := .type "tuple", data := .seq (ps.map fun (i : Nat) => rawInt i).toArray }).objs.size := by rw [Heap.size_push]; exact Nat.lt_succ_self _
    refine h _ _ _ _ _ _ ?_ (walk_drawn (T := s.heap.objs.size) (ep := ep) hh (Nat.ne_of_lt (Nat.lt_trans hlt sz1)) (Nat.ne_of_lt sz1) hf hp) ⟨⟨_, Heap.get?_push_size _ rfl, rfl, rfl⟩, ⟨_, Heap.get?_push_of_some _ (Heap.get?_push_of_some _ hoS), hex, hdS⟩, ⟨_, _, Heap.get?_push_of_some _ (Heap.get?_push_size _ rfl), rfl⟩⟩ (fun b o e => Heap.get?_push_of_some _ (Heap.get?_push_of_some _ e)) (fun b hb => ?_) (Nat.le_of_lt sz1)
    · exact (hp.filterMap _).trans (by rw [filterMap_getElem?_range])
    · simp only [List.mem_cons, List.not_mem_nil, or_false] at hb
      rcases hb with rfl | rfl | rfl
      · exact .inr (Nat.le_of_lt sz1)
      · exact .inl rfl
      · exact .inr (Nat.le_refl _)
  · have z : ¬ (!w.params.followText "set-order" && (!t.plain && decide (es.size > 1))) = true := hab
    refine wpAny_bind (wpAny_pure ?_)
    refine wpAny_bind (wpAny_setEpoch_of hoS hdS hf ?_)
    refine wpAny_bind (wpAny_newObj_type ?_ (by size_fits))
    refine wpAny_pure ⟨_, rfl, "set_iterator", _, ⟨_, Heap.get?_push_size _ rfl, rfl⟩, si_slot_next.lookup, ?_⟩
    have fin : ∀ b ∈ [s.heap.objs.size, S], b = S ∨ s.heap.objs.size ≤ b := fun b hb => by
      simp only [List.mem_cons, List.not_mem_nil, or_false] at hb
      rcases hb with rfl | rfl
      · exact .inr (Nat.le_refl _)
      · exact .inl rfl
    cases hbt : w.params.followText "set-order" with
    | true => exact h _ _ _ _ _ s.drawn (pick_perm _ _) (walk_text (ep := ep) hh (Nat.ne_of_lt hlt) hbt hf) ⟨⟨_, Heap.get?_push_size _ rfl, rfl, rfl⟩, ⟨_, Heap.get?_push_of_some _ hoS, hex, hdS⟩⟩ (fun b o e => Heap.get?_push_of_some _ e) fin (Nat.le_refl _)
    | false =>
      rw [hbt] at z
      have hp : t.plain = true ∨ es.size ≤ 1 := by
        cases e : t.plain with
        | true => exact .inl rfl
        | false =>
          rw [e] at z
          simp at z
          exact .inr z
      exact h _ _ _ _ _ s.drawn (.refl _) (walk_plain (ep := ep) hh (Nat.ne_of_lt hlt) hbt hf ht hp) ⟨⟨_, Heap.get?_push_size _ rfl, rfl, rfl⟩, ⟨_, Heap.get?_push_of_some _ hoS, hex, hdS⟩⟩ (fun b o e => Heap.get?_push_of_some _ e) fin (Nat.le_refl _)
end
end L2
namespace L2
open PySem PySem.Spec PyProof.Rows
section
variable {prog : Program} {w : World} {A : Around} {E : Value → Shared → Prop} {s : Shared} {S : Addr} {ep : Nat} {es : Array (Int × Value)} {t : SetTable}
theorem set_hint {r : Addr} {Q : Bool → Shared → Prop} (hT : s.TypeIs (.ref r) "set") (h : Q false s) : wpAny (model prog w) A (Builtin.List.listLengthHint (.ref r)) Q E s := by
  unfold Builtin.List.listLengthHint
  refine wpAny_bind (wpAny_specialOf hT PySem.F.slot_set_len.lookup ?_)
  generalize hid : ("set.__len__" : String) = id0
  wp_delta
  rw [show splitId id0 = some ("set", "__len__") from by subst hid; decide +kernel]
  subst hid
  refine wpAny_bind (wpAny_isInstance (T := "set") (b := true) hT sub_set_self ?_)
  refine wpAny_ite_split (fun hab => absurd hab (by decide)) (fun _ => ?_)
  refine wpAny_ite_split (fun _ => ?_) (fun hab => absurd (by decide +kernel) hab)
  exact wpAny_bind (wpAny_typeOf hT (wpAny_pure h))
def Took (es : Array (Int × Value)) (acc : Array Value) : Prop := ∃ order : List (Int × Value), List.Perm order es.toList ∧ acc.toList = order.map (·.2)
theorem took_of {order : List (Int × Value)} {acc : Array Value} (hp : List.Perm order es.toList) (h : ItemsOf (fun i v => ∃ z, order[i]? = some (z, v)) acc es.size) : Took es acc := by
  refine ⟨order, hp, List.ext_getElem? fun i => ?_⟩
  have hl : order.length = es.size := by rw [hp.length_eq, Array.length_toList]
  rw [Array.getElem?_toList, List.getElem?_map]
  cases e : acc[i]? with
  | none =>
    have : acc.size ≤ i := Array.getElem?_eq_none_iff.mp e
    rw [List.getElem?_eq_none (by rw [hl, ← h.1]; exact this)]
    rfl
  | some v =>
    obtain ⟨z, hz⟩ := h.2 i v e
    rw [hz]
    rfl
theorem set_extend {R : Result → Shared → Prop} (hh : A.handled = none) (hs : SetAt s.heap S es ep t) (hf : t.fits es.size = true) (ht : TabOk (ledOf w) t) (hz : es.size < scanBound) (L : Addr) (hLS : L ≠ S) (res : Value) (c₀ : Nat) (hL : s.heap.get? L = some { cls := .type "list", data := .seq #[] c₀ })
    (hR : ∀ h' d' tk acc' c', (∀ b o, b ≠ L → s.heap.get? b = some o → h'.get? b = some o) → h'.get? L = some { cls := .type "list", dict := none, data := .seq acc' c', slots := #[] } → Took es acc' → R (.ok (.ret res)) { s with heap := h', drawn := d', toks := tk }) :
    wpAny (model prog w) A.in1 (Builtin.List.listExtendWith (.ref L) (.ref S) res) (fun fin s' => match fin with | .done f => R (.ok f) s' | .again c' => c'.quiet = true ∧ codeAny (model prog w) A c' R s') (fun e s' => R (.error e) s') s := by
  obtain ⟨oS, hoS, hex, hdS⟩ := id hs
  have hT : s.TypeIs (.ref S) "set" := ⟨_, hoS, hex.1⟩
  have hlt : L < s.heap.objs.size := Heap.lt_size hL
  unfold Builtin.List.listExtendWith
  refine wpAny_bind (wpAny_typeOf hT ?_)
  have h1 : Builtin.List.listSameRef (.ref L) (.ref S) = false := by simp [Builtin.List.listSameRef, hLS]
  have h2 : (Value.type "set" == Value.type "list") = false := by decide
  have h3 : (Value.type "set" == Value.type "tuple") = false := by decide
  simp only [h1, h2, h3, Bool.or_false, Bool.false_eq_true, if_false]
  refine wpAny_bind (set_iter (A := A.in1) hh hs hf ht hz fun I fp order St h1 d1 hp W st keep hfp hI => ?_)
  have hLf : L ∉ fp := fun m => by
    rcases hfp L m with z | z
    · exact hLS z
    · exact absurd hlt (Nat.not_lt.mpr z)
  have hL1 := keep _ _ hL
  have hT1 : Shared.TypeIs { s with heap := h1, drawn := d1 } (.ref S) "set" := ⟨_, keep _ _ hoS, hex.1⟩
  have key : ∀ (h : Heap) (c₁ : Nat), St 0 h → (∀ b o, b ≠ L → s.heap.get? b = some o → h.get? b = some o) → h.get? L = some { cls := .type "list", data := .seq #[] c₁ } → codeAny (model prog w) A (.builtin "list.extend.loop" ⟨[.ref L, .ref I, res], []⟩) R { s with heap := h, drawn := d1 } := by
    intro h c₁ hst hk hL₁
    refine codeAny_extend_loopS W.toS (fits_of_scanBound hz) L hLf res es.size 0 _ #[] c₁ rfl (Nat.zero_le _) hst hL₁ (ItemsOf.nil _) fun s' acc' c' hm hL' hacc => ?_
    rw [Moved.eq_with hm]
    refine hR s'.heap d1 s'.toks acc' c' (fun b o hb e => hm.heap b o (fun z => ?_) (hk b o hb e)) hL' (took_of hp hacc)
    rcases List.mem_cons.mp z with z | z
    · exact hb z
    · have h9 := Heap.lt_size e
      rw [List.mem_singleton.mp z] at h9
      exact absurd h9 (Nat.not_lt.mpr hI)
  refine wpAny_bind (wpAny_holding (set_hint hT1 ?_))
  refine wpAny_ite_split (fun _ => ?_) (fun _ => wpAny_pure ⟨plainId_quiet PySem.F.plain_extend_loop _, key _ c₀ st (fun b o _ e => keep b o e) hL1⟩)
  refine wpAny_bind (wpAny_rule (wpAny_bind ?_))
  show wpAny _ _ (updateSeq L (·.push .none) >>= fun _ => updateSeq L (·.pop)) _ _ _
  refine wpAny_bind (wpAny_updateSeq hL1 rfl ?_)
  have hL₂ := Heap.get?_update_self (Obj.mapSeq (·.push Value.none)) hL1 rfl
  refine wpAny_updateSeq (hz := by seq_fits) hL₂ rfl ?_
  have hL₃ := Heap.get?_update_self (Obj.mapSeq (·.pop)) hL₂ rfl
  refine wpAny_pure ⟨plainId_quiet PySem.F.plain_extend_loop _, key _ _ ?_ (fun b o hb e => ?_) hL₃⟩
  · refine W.frame 0 _ _ st fun b hb o e => ?_
    have hbL : b ≠ L := fun z => hLf (z ▸ hb)
    exact (Heap.get?_update_other _ _ (Ne.symm hbL)).trans ((Heap.get?_update_other _ _ (Ne.symm hbL)).trans e)
  · exact (Heap.get?_update_other _ _ (Ne.symm hb)).trans ((Heap.get?_update_other _ _ (Ne.symm hb)).trans (keep _ _ e))
theorem set_collect {R : List Value → Shared → Prop} (hh : A.handled = none) (hs : SetAt s.heap S es ep t) (hf : t.fits es.size = true) (ht : TabOk (ledOf w) t) (hz : es.size < scanBound)
    (h : ∀ (h' : Heap) (d' : Drawn) (tk : Nat) (acc : Array Value), (∀ b o, s.heap.get? b = some o → h'.get? b = some o) → Took es acc → R acc.toList { s with heap := h', drawn := d', toks := tk }) :
    wpAny (model prog w) A (collect (.ref S)) R E s := by
  obtain ⟨oS, hoS, hex, hdS⟩ := id hs
  have hlt : S < s.heap.objs.size := Heap.lt_size hoS
  unfold collect
  refine wpAny_bind (wpAny_runValue (codeAny_builtin entry_proto_collect' ?_))
  rw [Around.under_plainId PySem.F.plain_proto_collect _]
  refine wpAny_bind (m := newList []) (wpAny_newObj_type ?_)
  refine wpAny_pure ⟨plainId_quiet PySem.F.plain_list_iadd _, codeAny_builtin entry_list_iadd' ?_⟩
  rw [Around.under_plainId PySem.F.plain_list_iadd _]
  have hL : (s.heap.push { cls := .type "list", data := .seq ([] : List Value).toArray }).get? s.heap.objs.size = some { cls := .type "list", data := .seq #[] } := Heap.get?_push_size _ rfl
  have key := set_extend (prog := prog) (A := A) (s := { s with heap := s.heap.push { cls := .type "list", data := .seq ([] : List Value).toArray } })
    (R := fun (q : Result) (s' : Shared) => ∃ (h' : Heap) (d' : Drawn) (tk : Nat) (acc' : Array Value) (c' : Nat), q = .ok (.ret (.ref s.heap.objs.size)) ∧ s' = { s with heap := h', drawn := d', toks := tk } ∧ (∀ b o, s.heap.get? b = some o → h'.get? b = some o) ∧ h'.get? s.heap.objs.size = some { cls := .type "list", dict := none, data := .seq acc' c', slots := #[] } ∧ Took es acc')
    hh (hs.keep fun o e => Heap.get?_push_of_some _ e) hf ht hz s.heap.objs.size (Nat.ne_of_gt hlt) (.ref s.heap.objs.size) 0 hL
    (fun h' d' tk acc' c' hk hS' hacc => ⟨h', d', tk, acc', c', rfl, rfl, fun b o e => hk b o (Nat.ne_of_lt (Heap.lt_size e)) (Heap.get?_push_of_some _ e), hS', hacc⟩)
  show wpAny _ A.in1 (Builtin.List.listExtendWith (.ref s.heap.objs.size) (.ref S) (.ref s.heap.objs.size)) _ _ _
  refine wpAny_mono key (fun fin s' x => ?_) fun e s' x => ?_
  · cases fin with
    | done f =>
      obtain ⟨h', d', tk, acc', c', e, rfl, hk, hS', hacc⟩ := x
      cases e
      exact wpAny_bind (wpAny_load hS' (wpAny_pure (h h' d' tk acc' hk hacc)))
    | again c₁ =>
      refine ⟨x.1, codeAny_mono x.2 fun q s₂ y => ?_⟩
      obtain ⟨h', d', tk, acc', c', rfl, rfl, hk, hS', hacc⟩ := y
      exact wpAny_bind (wpAny_load hS' (wpAny_pure (h h' d' tk acc' hk hacc)))
  · obtain ⟨_, _, _, _, _, e', _⟩ := x
    cases e'
end
end L2
namespace L2
open PySem PySem.Spec PySem.Calls PyProof.Rows
def setO (prog : Program) (w : World) (a : Addr) (S : Int → Bool) (n : Nat) : HO := .ext fun h => SetG prog w h a S n
theorem vals_of_ints : ∀ {us : List Value} {ns : List Int}, IntsAre us ns → Vals (ns.map V.int) us
  | _, _, .nil => .nil
  | _, _, .cons n t h => .cons ⟨t, rfl⟩ (vals_of_ints h)
theorem ints_kind {prog : Program} {w : World} : ∀ {l : List Value}, (∀ v ∈ l, ∃ k, (intKind prog w).is k v = true) → ∃ ns, IntsAre l ns ∧ ∀ k, k ∈ ns ↔ ∃ v ∈ l, (intKind prog w).is k v = true
  | [], _ => ⟨[], .nil, fun k => by simp⟩
  | v :: l, h => by
    obtain ⟨ns, h1, h2⟩ := ints_kind (l := l) fun x hx => h x (by simp [hx])
    obtain ⟨k, hk⟩ := h v (by simp)
    obtain ⟨t, rfl⟩ := Value.isInt_shape (show Value.isInt k v = true from hk)
    refine ⟨k :: ns, .cons k t h1, fun j => ?_⟩
    rw [List.mem_cons, h2 j]
    constructor
    · rintro (rfl | ⟨x, hx, e⟩)
      · exact ⟨_, .head _, hk⟩
      · exact ⟨x, .tail _ hx, e⟩
    · rintro ⟨x, hx, e⟩
      rcases List.mem_cons.mp hx with rfl | hx
      · exact .inl ((intKind prog w).inj _ _ _ e hk)
      · exact .inr ⟨x, hx, e⟩
theorem Inv.dr {X : Cx} {pins : List (Addr × Obj)} {σ : St} {H : Hp} {s : Shared} {d' : Drawn} (I : Inv X pins σ H s) : Inv X pins σ H { s with drawn := d' } := ⟨I.ok, I.os, I.bare, I.base, I.loc, I.cell, I.free, I.freeC, I.pin, I.hok, I.len⟩
section
variable {prog : Program} {w : World} {A : Around} {E : Value → Shared → Prop} {s : Shared}
theorem call_sortedG {S : Addr} {f : Int → Bool} {n : Nat} {Q : Value → Shared → Prop} (hh : A.handled = none) (hS : SetG prog w s.heap S f n) (hn : n < 64)
    (h : ∀ (h1 h' : Heap) (d' : Drawn) (tk : Nat) (out : Array Value) (ns : List Int) (c : Nat), (∀ b o, s.heap.get? b = some o → h1.get? b = some o) → (∀ b o, h1.get? b = some o → h'.get? b = some o) → h'.get? h1.objs.size = some { cls := .type "list", data := .seq out c } → IntsAre out.toList ns → ns.length = n → (∀ k, f k = true ↔ k ∈ ns) → ns.Pairwise (· ≤ ·) →
      Q (.ref h1.objs.size) { s with heap := h', drawn := d', toks := tk }) : wpAny (model prog w) A (call (.builtin "sorted") [.ref S]) Q E s := by
  obtain ⟨o, es, ep, t, ho, hex, hd, hel, hmem, hb, hf, rfl, ht⟩ := hS
  refine call_function_entry kind_sorted plain_sorted entry_sorted (args_sorted1 _) ?_
  unfold Builtin.«sorted»
  refine wpAny_bind (m := checkCount "sorted" 1 1 _) (wpAny_pure ?_)
  refine wpAny_bind (set_collect (A := A.in1) hh ⟨_, ho, hex, hd⟩ hf ht hb fun h1 d1 tk acc keep took => ?_)
  obtain ⟨order, hp, ea⟩ := took
  have hl : acc.toList.length = es.size := by rw [ea, List.length_map, hp.length_eq, Array.length_toList]
  obtain ⟨ns, hI, hns⟩ := ints_kind (prog := prog) (w := w) (l := acc.toList) fun v hv => by
    rw [ea] at hv
    obtain ⟨e, he, rfl⟩ := List.mem_map.mp hv
    obtain ⟨k, hk, _⟩ := (hel e (hp.mem_iff.mp he)).1
    exact ⟨k, hk⟩
  refine wpAny_bind (wpAny_newList ?_ (by rw [hl]; exact fits_of_scanBound hb))
  have hD : (h1.push { cls := .type "list", data := .seq acc.toList.toArray }).get? h1.objs.size = some (seqObj "list" acc.toList.toArray 0) := Heap.get?_push_size _ rfl
  refine wpAny_bind (wpAny_holding (wpAny_call_entry slot_list_sort ⟨_, hD, rfl⟩ entry_list_sort (list_sort_tree hD hI (by omega) fun out ns' hI' hpn hpw => ⟨.none, rfl, ?_⟩) (args_list_sort _)))
  obtain ⟨c, hc⟩ := sortedHeap_at (out := out) hD
  refine wpAny_pure ⟨_, rfl, h h1 _ d1 tk out ns' c keep (fun b o e1 => ?_) hc hI' ?_ (fun k => ?_) hpw⟩
  · rw [sortedHeap_old (Nat.ne_of_lt (Heap.lt_size e1)) (by rw [size_push']; exact Nat.lt_succ_of_lt (Heap.lt_size e1))]
    exact Heap.get?_push_of_some _ e1
  · rw [hpn.length_eq, ← hI.length, hl]
  · rw [hpn.mem_iff, hns k, hmem k, ea]
    constructor
    · rintro ⟨e, he, q⟩
      exact ⟨e.2, List.mem_map.mpr ⟨e, hp.mem_iff.mpr he, rfl⟩, q⟩
    · rintro ⟨v, hv, q⟩
      obtain ⟨e, he, rfl⟩ := List.mem_map.mp hv
      exact ⟨e, hp.mem_iff.mp he, q⟩
end
section
variable {X : Cx}
theorem call_setI (hc : X.calm = true) : CallR X (.type "set") (fun vs H Q => ∃ (a : Addr) (ns : List Int), vs = [.ref a] ∧ SqL X.K H a (ns.map V.int) ∧ ns.length ≤ 4000 ∧ ∀ (D : Addr) (f : Int → Bool) (n : Nat), H D = none → n ≤ ns.length → (∀ k, f k = true ↔ k ∈ ns) → Q (.ref D) (upd H D (setO X.prog X.w D f n))) := by
  intro pins s σ H vs us Q I r h
  obtain ⟨a, ns, rfl, hq, hn, q⟩ := h
  obtain ⟨u, rfl, r1⟩ := Vals.one r
  cases r1
  obtain ⟨its, rv, pl, hz⟩ := I.list hq
  have hi : IntsAre its ns := intsAre_of rv
  have hl : its.length = ns.length := hi.length
  refine call_setG (items := its.toArray) (ns := ns) (I.ok.hd hc) pl.isList hi (by rw [List.size_toArray, hl]; show _ < 4096; omega) fun h' tk hS keep => ?_
  have hsz : its.toArray.size = ns.length := by rw [List.size_toArray, hl]
  rw [hsz] at hS
  refine ⟨.ref s.heap.objs.size, upd H s.heap.objs.size (setO X.prog X.w s.heap.objs.size (fun k' => (firstMet (fun i => ns.getD i 0) ns.length).any (· == k')) (firstMet (fun i => ns.getD i 0) ns.length).length), I.laid (t' := tk) keep (Nat.le_refl _) ?_, rfl, q _ _ _ I.fresh (firstMet_length_le _ _) fun k => ?_⟩
  · obtain ⟨o, es, ep, t, ho, r⟩ := id hS
    exact ⟨hS, ⟨_, ho⟩, fun h1 h2 x k => x.keep k⟩
  · rw [firstMet_any, List.any_eq_true]
    constructor
    · rintro ⟨x, hx, e⟩
      obtain ⟨i, hi', rfl⟩ := List.mem_map.mp hx
      have hlt := List.mem_range.mp hi'
      have e2 : ns.getD i 0 = k := by simpa using e
      rw [← e2]
      simp [List.getD, hlt]
    · intro hk
      obtain ⟨i, hi', e⟩ := List.mem_iff_getElem.mp hk
      exact ⟨ns.getD i 0, List.mem_map.mpr ⟨i, List.mem_range.mpr hi', rfl⟩, by simp [List.getD, hi', e]⟩
theorem call_sortedI (hc : X.calm = true) : CallR X (.builtin "sorted") (fun vs H Q => ∃ (S : Addr) (f : Int → Bool) (n : Nat), vs = [.ref S] ∧ H S = some (setO X.prog X.w S f n) ∧ n < 64 ∧ ∀ (D : Addr) (ns : List Int), H D = none → ns.length = n → (∀ k, f k = true ↔ k ∈ ns) → ns.Pairwise (· ≤ ·) → Q (.ref D) (upd H D (.lst (ns.map V.int)))) := by
  intro pins s σ H vs us Q I r h
  obtain ⟨S, f, n, rfl, hS, hn, q⟩ := h
  obtain ⟨u, rfl, r1⟩ := Vals.one r
  cases r1
  have hG : SetG X.prog X.w s.heap S f n := (I.hok S _ hS).1
  refine call_sortedG (I.ok.hd hc) hG hn fun h1 h' d' tk out ns c k1 k2 hD hI hl hm hp => ?_
  have I1 : Inv X pins σ H { s with heap := h1, toks := tk } := I.kept k1
  have I2 : Inv X pins σ (upd H h1.objs.size (.lst (ns.map V.int))) { s with heap := h', toks := tk } := I1.laid (h' := h') (t' := tk) k2 (Nat.le_refl _) ⟨by rw [List.length_map, sizeLine_eq]; omega, out.toList, c, vals_of_ints hI, by rw [Array.toArray_toList]; exact hD⟩
  exact ⟨.ref _, _, I2.dr, rfl, q _ ns I1.fresh hl hm hp⟩
end
end L2
namespace L2
open PySem PySem.Spec PyProof.Rows

def cxCompX (X : Cx) (N : List Str) (scope : Scope) (cl : List (Str × Addr)) (s : Shared) (H : Hp) (fp : List Addr) (E : XK) : Cx :=
  (cxComp X N scope cl s H fp).wish fun e s' => ∃ pins σ H1 s1, Inv (cxComp X N scope cl s H fp) pins σ H1 s1 ∧ CXx X.prog X.w X.stack H1 s1 E e s'
theorem cxCompX_K {X : Cx} {N : List Str} {scope : Scope} {cl : List (Str × Addr)} {s : Shared} {H : Hp} {fp : List Addr} {E : XK} : (cxCompX X N scope cl s H fp E).K = X.K := rfl
section
variable {X : Cx} {pins : List (Addr × Obj)} {σ : St} {H : Hp} {s : Shared}
end
end L2
namespace L2
open PySem
section
variable {prog : Program} {w : World} {A : Around} {E : Value → Shared → Prop} {s : Shared}
end
section
variable {prog : Program} {w : World} {A : Around} {E : Value → Shared → Prop} {s : Shared}
end
end L2
namespace L2
open PySem PySem.Spec PyProof.Rows
def Itp3 (n : Nat) (ok : Hp → Prop) (f : Nat → Hp → V → V → V → Prop) : It :=
  ⟨fun i H => i < n ∧ ok H, fun i H x H' => ∃ T u v t, H T = none ∧ x = .ref T ∧ H' = upd H T (.tup [u, v, t]) ∧ f i H u v t, fun i H => i = n ∧ ok H⟩
def okZ3 (K : PySem.W.Frag) (a b c : Addr) (n : Nat) (H : Hp) : Prop := ∃ xs ys zs, SqL K H a xs ∧ SqL K H b ys ∧ SqL K H c zs ∧ min (min xs.length ys.length) zs.length = n
def Itz3 (K : PySem.W.Frag) (a b c : Addr) (n : Nat) : It := Itp3 n (okZ3 K a b c n) fun i H u v t => (∀ xs, SqL K H a xs → xs[i]? = some u) ∧ (∀ ys, SqL K H b ys → ys[i]? = some v) ∧ ∀ zs, SqL K H c zs → zs[i]? = some t
def iZip3 (K : PySem.W.Frag) (ta tb tc : TE) : TI := fun σ H R => ta σ H fun x H1 => tb σ H1 fun y H2 => tc σ H2 fun z H3 => ∃ a b c xs ys zs, x = .ref a ∧ y = .ref b ∧ z = .ref c ∧ SqL K H3 a xs ∧ SqL K H3 b ys ∧ SqL K H3 c zs ∧ R (Itz3 K a b c (min (min xs.length ys.length) zs.length)) H3
section
variable {X : Cx} {es : List Expr} {k : Nat} {tpos : Pos}
end
theorem iZip3_ap {K : PySem.W.Frag} {ta tb tc : TE} {σ : St} {H : Hp} {R : It → Hp → Prop} : iZip3 K ta tb tc σ H R = ta σ H fun x H1 => tb σ H1 fun y H2 => tc σ H2 fun z H3 => ∃ a b c xs ys zs, x = .ref a ∧ y = .ref b ∧ z = .ref c ∧ SqL K H3 a xs ∧ SqL K H3 b ys ∧ SqL K H3 c zs ∧ R (Itz3 K a b c (min (min xs.length ys.length) zs.length)) H3 := rfl
end L2
namespace L2
open PySem PySem.Spec PyProof.Rows
section
variable {X : Cx}
end
end L2
namespace L2
open PySem PySem.Spec PyProof.Rows
section
variable {X : Cx}
end
end L2
namespace L2
open PySem PySem.Spec PySem.Calls PyProof.Rows PySem.W
end L2
namespace L2
open PySem PySem.Spec PySem.Calls PyProof.Rows PySem.W SM
theorem isPart_of {v : Value} {o : Option Int} (h : IsPart v o) : ∃ l : Option (Int × Tok), v = partValue l ∧ l.map (·.1) = o := by
  cases h with
  | none => exact ⟨none, rfl, rfl⟩
  | int i t => exact ⟨some (i, t), rfl, rfl⟩
def rSlS : V → Option Int → Option Int → Hp → VK → Prop := fun x lo hi H Q => ∃ z, x = .str z ∧ z.length ≤ sizeLine ∧ Q (.str (Txt.slice z lo hi)) H
section
variable {X : Cx}
theorem sl_str : SlR X rSlS := by
  intro pins s σ H x v vl vu lo hi sl Q I rx hs pl pu h
  obtain ⟨z, rfl, hz, q⟩ := h
  obtain ⟨t, rfl⟩ := rx
  obtain ⟨l, rfl, rfl⟩ := isPart_of pl
  obtain ⟨u, rfl, rfl⟩ := isPart_of pu
  refine ⟨"str", _, F.slot_str_getitem.lookup, typeIs_str _ _ _, wpAny_getItem_str_slice (l := l) (u := u) (st := none) hs rfl ?_⟩
  exact post_val_or_str ⟨Nat.le_trans (Txt.slice_le z _ _) hz, fun t' k => ⟨.str _, H, I.tok _, ⟨_, rfl⟩, q⟩⟩
theorem pxs_set {i : Nat} {x : Str} {e : Expr} {te : XK → TE} {pos' pos : Pos} (hN : X.N.Nodup) (hi : X.N[i]? = some x) (hx : Loc X.env.scope x) (he : PXe X e te) (hs : swapsWith e (some (.Name x pos')) pos.line X.env = pure false := by rfl) (hf : X.fn x = true ∨ X.env.scope.names.lookup x = some .local := by first | exact .inl rfl | exact .inr rfl | assumption) :
    PXs X [.Assign [.Name x pos'] e pos] fun E => tAsg (te E) (gName i) := by
  intro pins s σ H D E I h
  refine wpAny_execs_cons (wpAny_Assign_Name (thn (he pins s σ H _ E I h) fun v s1 ⟨y, H1, I1, r1, q1⟩ => ?_) hs)
  exact store_ok I1 hN hi hx r1 (fun s2 I2 => wpAny_execs_nil ⟨_, H1, I2, q1⟩) hf
end
theorem forW_str {σ : St} {H : Hp} {D : Ends} {z : Str} {g : TG} {tb : TS} (Pv : Nat → St → Hp → Prop) (h0 : Pv 0 σ H)
    (hs : ∀ i c σ H, z.cps[i]? = some c → Pv i σ H → g (.str ⟨#[c]⟩) σ H fun σ2 H2 => tb { D with nx := Pv (i + 1), ct := Pv (i + 1), bk := D.nx } σ2 H2) (hd : ∀ σ H, Pv z.cps.size σ H → D.nx σ H) : ForW (Itc z) g tb D σ H := by
  refine ⟨fun i m σ H => m = z.cps.size - i ∧ i ≤ z.cps.size ∧ Pv i σ H, ⟨_, rfl, Nat.zero_le _, h0⟩, ?_⟩
  rintro i m σ1 H1 ⟨rfl, hi, p⟩
  by_cases hlt : i < z.cps.size
  · refine .inr ⟨hlt, Pv (i + 1), fun σ' H' p' => ⟨z.cps.size - (i + 1), by omega, rfl, hlt, p'⟩, fun x H' y => ?_⟩
    obtain ⟨e, c, ec, ex⟩ := y
    subst e ex
    exact hs i c σ1 _ ec p
  · have e : i = z.cps.size := by omega
    subst e
    exact .inl ⟨Nat.le_refl _, hd _ _ p⟩
theorem asc_iff {z : Str} : Asc z ↔ ∀ c ∈ z.cps.toList, c < 128 := by
  unfold Asc
  rw [Array.all_eq_true_iff_forall_mem]
  exact ⟨fun h c hc => of_decide_eq_true (h c (Array.mem_toList_iff.mp hc)), fun h c hc => decide_eq_true (h c (Array.mem_toList_iff.mpr hc))⟩
theorem asc_tx {l : List Nat} : Asc (tx l) ↔ ∀ c ∈ l, c < 128 := by
  rw [asc_iff]
  simp [tx]
theorem Asc.slice {z : Str} (h : Asc z) (lo hi : Option Int) : Asc (Txt.slice z lo hi) := by
  unfold Txt.slice
  split
  · exact h
  · rw [asc_iff] at h ⊢
    intro c hc
    simp only [List.mem_filterMap] at hc
    obtain ⟨i, _, e⟩ := hc
    exact h c (Array.mem_toList_iff.mpr (Array.mem_of_getElem? e))
theorem str_app (y z : Str) : (y ++ z).cps.toList = y.cps.toList ++ z.cps.toList := by
  show (y.cps ++ z.cps).toList = _
  simp
theorem app_len (y z : Str) : (y ++ z).length = y.length + z.length := by
  show (y.cps ++ z.cps).size = _
  simp [Str.length]
end L2
namespace L2
open PySem PySem.Spec PySem.Calls PyProof.Rows PySem.W
theorem all_range (bs : List Bool) : (List.range bs.length).all (fun i => bs.getD i false) = bs.all id := by
  rw [Bool.eq_iff_iff, List.all_eq_true, List.all_eq_true]
  constructor
  · intro h b hb
    obtain ⟨i, hi, e⟩ := List.getElem_of_mem hb
    have := h i (List.mem_range.mpr hi)
    rw [List.getD_eq_getElem?_getD, List.getElem?_eq_getElem hi, e] at this
    exact this
  · intro h i hi
    have hi := List.mem_range.mp hi
    rw [List.getD_eq_getElem?_getD, List.getElem?_eq_getElem hi]
    exact h _ (List.getElem_mem hi)
theorem call_allB {X : Cx} (hc : X.calm = true) : CallR X (.builtin "all") (fun vs H Q => ∃ (a : Addr) (bs : List Bool), vs = [.ref a] ∧ SqL X.K H a (bs.map V.bl) ∧ Q (.bl (bs.all id)) H) := by
  intro pins s σ H xs us Q I r h
  obtain ⟨a, bs, rfl, hq, q⟩ := h
  obtain ⟨u, rfl, r1⟩ := Vals.one r
  cases r1
  obtain ⟨its, rv, pl, hz⟩ := I.list hq
  have hl := pl.isList
  have la : a < s.heap.objs.size := by obtain ⟨o, e, _⟩ := hl; exact Heap.lt_size e
  have ne : a ≠ s.heap.objs.size := Nat.ne_of_lt la
  refine call_all_walkS (wpAny_pyIter_list hl ?_)
  have WS := (Walks.list (prog := X.prog) (w := X.w) (A := X.A.in1) (I.ok.hd hc) s.heap.objs.size a ne its.toArray).toS
  refine ⟨_, _, _, _, _, _, _, fun i => bs.getD i false, rfl, WS, ⟨⟨_, Heap.get?_push_size _ rfl, rfl, rfl⟩, hl.push _⟩, fun i v s' Q' E' hv hq' => ?_, fun s' mv => ?_⟩
  · have hv' : its[i]? = some v := by simpa using hv
    have hi : i < (bs.map V.bl).length := by rw [rv.length]; exact (List.getElem?_eq_some_iff.mp hv').1
    obtain ⟨u, e1, r2⟩ := rv.get (List.getElem?_eq_getElem hi)
    rw [hv'] at e1
    cases e1
    rw [List.length_map] at hi
    rw [List.getElem_map] at r2
    cases r2
    have hq2 : Q' (bs.getD i false) s' := hq'
    rw [List.getD_eq_getElem?_getD, List.getElem?_eq_getElem hi] at hq2
    exact wpAny_truthy_bool hq2
  · have e : (List.range its.toArray.size).all (fun i => bs.getD i false) = bs.all id := by
      have : its.toArray.size = bs.length := by
        have := rv.length
        rw [List.length_map] at this
        simp [this]
      rw [this]
      exact all_range bs
    rw [e, Moved.eq_with mv]
    refine ⟨.bl (bs.all id), H, I.kept fun b o e => mv.heap b o (fun z => ?_) (Heap.get?_push_of_some _ e), rfl, q⟩
    exact absurd (Heap.lt_size e) (by rw [List.mem_singleton.mp z]; exact Nat.lt_irrefl _)
end L2
namespace L2
open PySem PySem.Spec PySem.Calls PyProof.Rows PySem.W
def TM (K : PySem.W.Frag) (C : Addr) (x qual : Str) (st : Stmt) : Prop := ∃ f fd, Fun K x qual st f fd ∧ Meth K C x f
theorem tm_mk {K : PySem.W.Frag} {C : Addr} {x qual : Str} {st : Stmt} {f : Addr} {oc : Value} {od an : Option Addr} {osl : Array (Option Value)} {kV doc pm cdv ct : Value}
    (a : PySem.W.findIn K (.ref C) x = some (some (.ref f))) (i : PySem.W.isFn K (.ref f) = true) (l : K.lookup f = some ⟨oc, od, .func (PySem.W.fnOf x qual (defArgs st) (defBody st) (defScope st) .none kV doc pm an cdv ct), osl⟩) (c : PySem.W.codeIn K cdv qual = true) (k : PySem.W.keepIn K (.ref f) = true) : TM K C x qual st :=
  ⟨f, _, fun_mk l c k, a, i, k⟩
def HasM (P : Program) (w : World) (K : PySem.W.Frag) (mg : Str → Option Value) (base : Heap) (k : Nat) (C : Addr) (x : Str) (ps : List Str) (sp : Sp) : Prop :=
  ∃ f fd, FnOk P w K mg base CX0 k f fd ps sp ∧ (∀ us : List Value, us.length = ps.length → bindArgs fd ⟨us, []⟩ = pure (ps.zip us)) ∧ Meth K C x f
theorem HasM.mono {P : Program} {w : World} {K : PySem.W.Frag} {mg : Str → Option Value} {base : Heap} {j k : Nat} {C : Addr} {x : Str} {ps : List Str} {sp : Sp} (h : HasM P w K mg base j C x ps sp) (hk : j ≤ k) : HasM P w K mg base k C x ps sp :=
  let ⟨f, fd, F, b⟩ := h
  ⟨f, fd, F.mono hk, b⟩
theorem TM.has {P : Program} {w : World} {K : PySem.W.Frag} {mg : Str → Option Value} {base : Heap} {C : Addr} {x qual : Str} {st : Stmt} {N ps : List Str} {k : Nat} {sp : Sp} (T : TM K C x qual st) (S : FnScope N ps (defScope st))
    (hb : ∀ (kV doc pm : Value) (an : Option Addr) (cdv ct : Value) (us : List Value), us.length = ps.length → bindArgs (PySem.W.fnOf x qual (defArgs st) (defBody st) (defScope st) .none kV doc pm an cdv ct) ⟨us, []⟩ = pure (ps.zip us))
    (len : ∀ vs H Q E, sp vs H Q E → vs.length = ps.length)
    (hbody : ∀ (f : Addr) (cdv : Value) (A : Around) (outer : List Env) (s : Shared) (H : Hp) (vs : List V) (Q : VK) (E : XK), Room k (A.deeper (envOfC qual (defScope st) s.heap.objs.size f cdv)) → sp vs H Q E →
      ∃ t, PSs (cxOf CX0 P w K mg base N qual (defScope st) f cdv A outer s H E).nox (defBody st) t ∧ t { nx := fun _ H' => Q .non H', rt := Q } (start N vs) H) : HasM P w K mg base (k + 1) C x ps sp := by
  obtain ⟨f, fd, F, m⟩ := T
  have ok := F.ok (P := P) (w := w) (mg := mg) (base := base) S len fun cdv A outer s H vs Q E hr hsp => hbody f cdv A outer s H vs Q E hr hsp
  obtain ⟨oc, od, kV, doc, pm, an, cdv, ct, osl, rfl, lk, hcd⟩ := F.ex
  exact ⟨f, _, ok, hb kV doc pm an cdv ct, m⟩
section
variable {X : Cx} {k : Nat} {C : Addr} {ps : List Str} {sp : Sp} {x m : Str} {p pos apos : Pos} {e o : Expr} {es : List Expr} {ta : TE} {t : TA}
theorem pe_mth {pl : Sem Bool} (he : PE X o ta) (c : Cls X.K C) (h : HasM X.prog X.w X.K X.mg X.base k C m ps sp) (hr : Room k X.A) (ha : PA X (e :: es) t)
    (hst : starEach (e :: es) X.env = (false, eval e X.env) :: starEach es X.env := by rfl) (hpl : (backTo pos (starEach es X.env)).any (·.1) = false := by rfl)
    (ht : eval (.Call (.Attribute o m apos) (e :: es) [] pos) X.env = (do
      let ov ← eval o X.env
      standAt apos.atName
      let (f, first) ← holding [ov] (getMethod ov m pl)
      callWith pos f first (backTo pos (starEach (e :: es) X.env)) (backToKw pos (keywordEach [] X.env))) := by rfl) :
    PE X (.Call (.Attribute o m apos) (e :: es) [] pos) (tMeth C m sp [] E0 ta t) := by
  obtain ⟨f, fd, F, hb, hm⟩ := h
  exact pe_meth he c hm F hr (.all hb) .nil pass0 ha hst hpl ht
theorem pe_mth0 {pl : Sem Bool} (he : PE X o ta) (c : Cls X.K C) (h : HasM X.prog X.w X.K X.mg X.base k C m ps sp) (hr : Room k X.A)
    (ht : eval (.Call (.Attribute o m apos) [] [] pos) X.env = (do
      let ov ← eval o X.env
      standAt apos.atName
      let (f, first) ← holding [ov] (getMethod ov m pl)
      callWith pos f first (backTo pos (starEach [] X.env)) (backToKw pos (keywordEach [] X.env))) := by rfl) :
    PE X (.Call (.Attribute o m apos) [] [] pos) (tMeth C m sp [] E0 ta tNil) := by
  obtain ⟨f, fd, F, hb, hm⟩ := h
  exact pe_meth0 he c hm F hr (.all hb) .nil pass0 ht
theorem pe_mk (h : HasM X.prog X.w X.K X.mg X.base k C "__init__" ps sp) (mk : PySem.W.makesIn X.K C = true) (kc : PySem.W.keepIn X.K (.ref C) = true) (hr : Room (k + 1) X.A) (hg : Gl X x) (hm : X.mg x = some (.ref C))
    (ha : PA X (e :: es) t) (hdb : (x == ("__debug__" : Str)) = false := by decide) (he : starEach (e :: es) X.env = (false, eval e X.env) :: starEach es X.env := by rfl) (hpl : (backTo pos (starEach es X.env)).any (·.1) = false := by rfl) :
    PE X (.Call (.Name x p) (e :: es) [] pos) (tMake C sp [] E0 t) := by
  obtain ⟨f, fd, F, hb, hM⟩ := h
  exact pe_make ⟨mk, hM.at_, hM.fn, kc⟩ F hr hg hm (.all hb) .nil pass0 ha hdb he hpl
end
def tFmt (te : TE) : TE := fun σ H Q => te σ H fun x H1 => (∃ i, x = .int i ∧ i.natAbs.log2 < 1920 ∧ Q (.str (toString i)) H1) ∨ ∃ z, x = .str z ∧ z.length ≤ sizeLine ∧ Q (.str z) H1
abbrev TJ := Str → TE
def jNil : TJ := fun acc _ H Q => acc.length ≤ sizeLine ∧ Q (.str acc) H
def jCons (te : TE) (tj : TJ) : TJ := fun acc σ H Q => te σ H fun x H1 => ∃ z, x = .str z ∧ (acc ++ z).length ≤ sizeLine ∧ tj (acc ++ z) σ H1 Q
def tJoin (tj : TJ) : TE := fun σ H Q => tj Str.empty σ H Q
section
variable {σ : St} {H : Hp} {Q : VK} {te : TE} {tj : TJ} {acc : Str}
theorem tFmt_ap : tFmt te σ H Q = te σ H fun x H1 => (∃ i, x = .int i ∧ i.natAbs.log2 < 1920 ∧ Q (.str (toString i)) H1) ∨ ∃ z, x = .str z ∧ z.length ≤ sizeLine ∧ Q (.str z) H1 := rfl
theorem jNil_ap : jNil acc σ H Q = (acc.length ≤ sizeLine ∧ Q (.str acc) H) := rfl
theorem jCons_ap : jCons te tj acc σ H Q = te σ H fun x H1 => ∃ z, x = .str z ∧ (acc ++ z).length ≤ sizeLine ∧ tj (acc ++ z) σ H1 Q := rfl
theorem tJoin_ap : tJoin tj σ H Q = tj Str.empty σ H Q := rfl
end
section
variable {X : Cx} {e a b : Expr} {es : List Expr} {te : TE} {tj : TJ} {pos : Pos}
def PJ (X : Cx) (es : List Expr) (tj : TJ) : Prop := ∀ (pins : List (Addr × Obj)) (s : Shared) (σ : St) (H : Hp) (acc : Str) (Q : VK), Inv X pins σ H s → tj acc σ H Q → wpAny (model X.prog X.w) X.A (joinParts acc (evalEach es X.env)) (EP X pins σ Q) X.xe s
theorem pj_nil : PJ X [] jNil := by
  intro pins s σ H acc Q I h
  exact joinParts_nil ⟨.str acc, H, I.tok _, ⟨_, rfl⟩, h.2⟩ h.1
theorem pj_cons (he : PE X e te) (hj : PJ X es tj) : PJ X (e :: es) (jCons te tj) := by
  intro pins s σ H acc Q I h
  refine joinParts_cons (thn (he pins s σ H _ I h) fun v s1 ⟨x, H1, I1, r1, q1⟩ => ?_)
  obtain ⟨z, rfl, hz, q⟩ := q1
  obtain ⟨t, rfl⟩ := r1
  exact ⟨hz, hj pins s1 σ H1 _ Q I1 q⟩
theorem pe_join (hj : PJ X (a :: b :: es) tj) : PE X (.JoinedStr (a :: b :: es) pos) (tJoin tj) := by
  intro pins s σ H Q I h
  exact JoinedStr_many (hj pins s σ H _ Q I h)
theorem pe_fmt (he : PE X e te) : PE X (.FormattedValue e (-1) none pos) (tFmt te) := by
  intro pins s σ H Q I h
  refine FormattedValue_plain (thn (he pins s σ H _ I h) fun v s1 ⟨x, H1, I1, r1, q1⟩ => ?_)
  rcases q1 with ⟨i, rfl, hi, q⟩ | ⟨z, rfl, hz, q⟩
  · obtain ⟨t, rfl⟩ := r1
    exact formatField_int_small hi ⟨.str _, H1, I1.tok _, ⟨_, rfl⟩, q⟩
  · obtain ⟨t, rfl⟩ := r1
    exact formatField_str (fun t' tk => ⟨.str _, H1, I1.tok _, ⟨_, rfl⟩, q⟩) hz
theorem mt_startsF : MtR X "str.startswith" (fun x vs H Q => ∃ (z y : Str) (i : Int), x = .str z ∧ vs = [.str y, .int i] ∧ Q (.bl (decide (PySem.fromIndex z.length i + y.length ≤ z.length) && Builtin.Str.subAt z y (PySem.fromIndex z.length i))) H) := by
  intro pins s σ H x vs v us Q I rx rs h
  obtain ⟨z, y, i, rfl, rfl, q⟩ := h
  obtain ⟨t, rfl⟩ := rx
  obtain ⟨u, w, rfl, r1, r2⟩ := Vals.two rs
  obtain ⟨t1, rfl⟩ := r1
  obtain ⟨t2, rfl⟩ := r2
  exact call_gives PySem.F.slot_str_startswith (typeIs_str _ _ _) PySem.F.entry_str_startswith (PySem.F.args_str_startswith_3 _ _ _) (gives_str_startswith_from z y i t t1 t2) ⟨.bl _, H, I.tok _, rfl, q⟩
end
section
variable {K : PySem.W.Frag} {σ : St} {H : Hp} {Q : VK} {D : Ends} {ta tv : TE} {t : TA} {f m : Str} {C : Addr} {sp : Sp} {dvs : List V} {E : XK} {rd : V → V → Hp → VK → Prop}
theorem tFld_ap : tFld K ta f σ H Q = ta σ H fun x H1 => ∃ a C dx fs v, x = .ref a ∧ H1 a = some (.ins C dx fs) ∧ Cls K C ∧ NoAttr K C f ∧ fs.lookup f = some v ∧ Q v H1 := rfl
theorem sFld_ap : sFld K ta tv f D σ H = tv σ H fun y H1 => ta σ H1 fun x H2 => ∃ a C dx fs, x = .ref a ∧ H2 a = some (.ins C dx fs) ∧ Cls K C ∧ NoAttr K C f ∧ fs.length < 1000 ∧ D.nx σ (upd H2 a (.ins C dx (putF f y fs))) := rfl
theorem sFldAug_ap : sFldAug K ta tv rd f D σ H = ta σ H fun x H1 => ∃ a C dx fs v, x = .ref a ∧ H1 a = some (.ins C dx fs) ∧ Cls K C ∧ NoAttr K C f ∧ fs.lookup f = some v ∧ tv σ H1 fun y H2 => rd v y H2 fun z H3 => ∃ dx' fs', H3 a = some (.ins C dx' fs') ∧ fs'.length < 1000 ∧ D.nx σ (upd H3 a (.ins C dx' (putF f z fs'))) := rfl
theorem tMeth_ap : tMeth C m sp dvs E ta t σ H Q = ta σ H fun x H1 => ∃ a dx fs, x = .ref a ∧ H1 a = some (.ins C dx fs) ∧ fs.lookup m = none ∧ t σ H1 fun vs H2 => sp (x :: (vs ++ dvs)) H2 Q E := rfl
theorem tMake_ap : tMake C sp dvs E t σ H Q = t σ H fun vs H1 => ∀ x dx, H1 x = none → H1 dx = none → dx ≠ x → sp (.ref x :: (vs ++ dvs)) (upd (upd H1 dx (.own x)) x (.ins C dx [])) (fun v H2 => v = .non ∧ Q (.ref x) H2) E := rfl
end
end L2
namespace L2
open PySem PySem.Spec PySem.Calls PyProof.Rows PySem.W
def HasMX (P : Program) (w : World) (K : PySem.W.Frag) (mg : Str → Option Value) (base : Heap) (k : Nat) (C : Addr) (x : Str) (ps : List Str) (sp : Sp) : Prop :=
  ∃ f fd, FnOk P w K mg base (CXx P w) k f fd ps sp ∧ (∀ us : List Value, us.length = ps.length → bindArgs fd ⟨us, []⟩ = pure (ps.zip us)) ∧ Meth K C x f
theorem HasMX.mono {P : Program} {w : World} {K : PySem.W.Frag} {mg : Str → Option Value} {base : Heap} {j k : Nat} {C : Addr} {x : Str} {ps : List Str} {sp : Sp} (h : HasMX P w K mg base j C x ps sp) (hk : j ≤ k) : HasMX P w K mg base k C x ps sp :=
  let ⟨f, fd, F, b⟩ := h
  ⟨f, fd, F.mono hk, b⟩
theorem TM.hasX {P : Program} {w : World} {K : PySem.W.Frag} {mg : Str → Option Value} {base : Heap} {C : Addr} {x qual : Str} {st : Stmt} {N ps : List Str} {k : Nat} {sp : Sp} (T : TM K C x qual st) (S : FnScope N ps (defScope st))
    (hb : ∀ (kV doc pm : Value) (an : Option Addr) (cdv ct : Value) (us : List Value), us.length = ps.length → bindArgs (PySem.W.fnOf x qual (defArgs st) (defBody st) (defScope st) .none kV doc pm an cdv ct) ⟨us, []⟩ = pure (ps.zip us))
    (len : ∀ vs H Q E, sp vs H Q E → vs.length = ps.length)
    (hbody : ∀ (f : Addr) (cdv : Value) (A : Around) (outer : List Env) (s : Shared) (H : Hp) (vs : List V) (Q : VK) (E : XK), Room k (A.deeper (envOfC qual (defScope st) s.heap.objs.size f cdv)) → sp vs H Q E →
      ∃ t, PSs (cxOf (CXx P w) P w K mg base N qual (defScope st) f cdv A outer s H E) (defBody st) t ∧ t { nx := fun _ H' => Q .non H', rt := Q } (start N vs) H) : HasMX P w K mg base (k + 1) C x ps sp := by
  obtain ⟨f, fd, F, m⟩ := T
  obtain ⟨oc, od, kV, doc, pm, an, cdv, ct, osl, rfl, lk, hcd⟩ := F.ex
  exact ⟨f, _, fn_of lk hcd S len fun A outer s H vs Q E hr hsp => hbody f cdv A outer s H vs Q E hr hsp, hb kV doc pm an cdv ct, m⟩
section
variable {X : Cx} {k : Nat} {C : Addr} {ps : List Str} {sp : Sp} {x m : Str} {p pos apos : Pos} {e o : Expr} {es : List Expr} {ta : TE} {t : TA} {E : XK}
theorem pe_mthX {pl : Sem Bool} (he : PE X o ta) (c : Cls X.K C) (h : HasMX X.prog X.w X.K X.mg X.base k C m ps sp) (hr : Room k X.A) (hx : Passes (CXx X.prog X.w) X E) (ha : PA X (e :: es) t)
    (hst : starEach (e :: es) X.env = (false, eval e X.env) :: starEach es X.env := by rfl) (hpl : (backTo pos (starEach es X.env)).any (·.1) = false := by rfl)
    (ht : eval (.Call (.Attribute o m apos) (e :: es) [] pos) X.env = (do
      let ov ← eval o X.env
      standAt apos.atName
      let (f, first) ← holding [ov] (getMethod ov m pl)
      callWith pos f first (backTo pos (starEach (e :: es) X.env)) (backToKw pos (keywordEach [] X.env))) := by rfl) :
    PE X (.Call (.Attribute o m apos) (e :: es) [] pos) (tMeth C m sp [] E ta t) := by
  obtain ⟨f, fd, F, hb, hm⟩ := h
  exact pe_meth he c hm F hr (.all hb) .nil hx ha hst hpl ht
end
end L2
namespace L2
open PySem PySem.Spec PyProof.Rows SM
section
variable {X : Cx}
end
end L2
namespace SM
open L2 PySem PySem.Builtin.Str
def splN (c : Nat) : List Nat → Nat → List (List Nat)
  | [], _ => [[]]
  | x :: xs, n => if n = 0 then [x :: xs] else if x = c then [] :: splN c xs (n - 1) else match splN c xs n with
    | h :: t => (x :: h) :: t
    | [] => [[x]]
theorem splN_x (c x : Nat) (xs : List Nat) (n : Nat) : splN c (x :: xs) n = if n = 0 then [x :: xs] else if x = c then [] :: splN c xs (n - 1) else match splN c xs n with
    | h :: t => (x :: h) :: t
    | [] => [[x]] := rfl
theorem splN_zero (c : Nat) (l : List Nat) : splN c l 0 = [l] := by
  cases l <;> simp [splN]
theorem splN_cons (c : Nat) : ∀ (l : List Nat) (n : Nat), ∃ h t, splN c l n = h :: t
  | [], _ => ⟨_, _, rfl⟩
  | x :: xs, n => by
    obtain ⟨h, t, e⟩ := splN_cons c xs n
    unfold splN
    split
    · exact ⟨_, _, rfl⟩
    · split
      · exact ⟨_, _, rfl⟩
      · rw [e]; exact ⟨_, _, rfl⟩
theorem parts_splN (z : Str) (c : Nat) : ∀ (l : List Nat) (k i n : Nat), z.cps.toList.drop k = l → k + l.length = z.length → i ≤ k →
    (((i :: ((cutsF c l k).take n).map (· + 1)).zip ((cutsF c l k).take n ++ [z.length])).map fun (a, b) => strSub z a b) = match splN c l n with
      | h :: t => tx ((z.cps.toList.drop i).take (k - i) ++ h) :: t.map tx
      | [] => []
  | [], k, i, n, hd, hl, hi => by
    simp only [cutsF, splN, List.take_nil, List.map_nil, List.nil_append, List.zip_cons_cons, List.zip_nil_left, List.map_cons, List.append_nil]
    rw [sub_list]
    have : z.length = k := by simpa using hl.symm
    rw [this]
  | x :: xs, k, i, 0, hd, hl, hi => by
    rw [splN_zero]
    simp only [List.take_zero, List.map_nil, List.nil_append, List.zip_cons_cons, List.zip_nil_left, List.map_cons]
    rw [sub_list]
    congr 2
    have lz : z.cps.toList.length = z.length := by simp [Str.length]
    have e1 : (z.cps.toList.drop i).take (z.length - i) = z.cps.toList.drop i := List.take_of_length_le (by rw [List.length_drop]; omega)
    have e2 : (z.cps.toList.drop i).drop (k - i) = x :: xs := by rw [List.drop_drop, show i + (k - i) = k by omega, hd]
    rw [e1, ← e2, List.take_append_drop]
  | x :: xs, k, i, n + 1, hd, hl, hi => by
    have hd' : z.cps.toList.drop (k + 1) = xs := by rw [← List.tail_drop, hd]; rfl
    have hl' : k + 1 + xs.length = z.length := by rw [List.length_cons] at hl; omega
    have hx : z.cps.toList[k]? = some x := by
      have : (z.cps.toList.drop k)[0]? = some x := by rw [hd]; rfl
      rw [List.getElem?_drop] at this
      exact this
    by_cases c1 : x = c
    · obtain ⟨h, t, e⟩ := splN_cons c xs n
      have ih := parts_splN z c xs (k + 1) (k + 1) n hd' hl' (Nat.le_refl _)
      rw [e] at ih
      simp only [Nat.sub_self, List.take_zero, List.nil_append] at ih
      have e0 : splN c (x :: xs) (n + 1) = [] :: splN c xs n := by
        rw [splN_x, if_neg (by omega), if_pos c1]
        rfl
      have e3 : (cutsF c (x :: xs) k).take (n + 1) = k :: (cutsF c xs (k + 1)).take n := by
        simp only [cutsF, c1, if_true, List.take_succ_cons]
      rw [e0, e3, e]
      simp only [List.map_cons, List.cons_append, List.zip_cons_cons, List.append_nil]
      rw [ih, sub_list]
    · obtain ⟨h, t, e⟩ := splN_cons c xs (n + 1)
      have ih := parts_splN z c xs (k + 1) i (n + 1) hd' hl' (by omega)
      rw [e] at ih
      have e0 : splN c (x :: xs) (n + 1) = (x :: h) :: t := by
        rw [splN_x, if_neg (by omega), if_neg c1, e]
      have e3 : cutsF c (x :: xs) k = cutsF c xs (k + 1) := by
        simp only [cutsF, c1, if_false]
      rw [e0, e3, ih]
      have e2 : (z.cps.toList.drop i).take (k + 1 - i) = (z.cps.toList.drop i).take (k - i) ++ [x] := by
        rw [show k + 1 - i = (k - i) + 1 by omega, List.take_add_one, List.getElem?_drop, show i + (k - i) = k by omega, hx]
        rfl
      simp only [e2, List.append_assoc, List.singleton_append]
theorem occ_loopN (z : Str) (c lim : Nat) : ∀ (l : List Nat) (k : Nat) (st : Array Nat × Nat), z.cps.toList.drop k = l → k + l.length = z.length → st.2 ≤ k →
    (forIn (List.range' k (l.length + 1)) st (StrLaws.occBody z ⟨#[c]⟩ z.length lim)).run.fst.toList = st.1.toList ++ (cutsF c l k).take (lim - st.1.size)
  | [], k, st, hd, hl, h2 => by
    have hk : k = z.length := by simpa using hl
    show (forIn [k] st (StrLaws.occBody z ⟨#[c]⟩ z.length lim)).run.fst.toList = _
    rw [List.forIn_cons]
    unfold StrLaws.occBody
    rw [if_neg (fun h => by have := h.1.2; simp [Str.length] at this hk; omega)]
    simp [cutsF]
  | x :: xs, k, st, hd, hl, h2 => by
    have hd' : z.cps.toList.drop (k + 1) = xs := by rw [← List.tail_drop, hd]; rfl
    have hl' : k + 1 + xs.length = z.length := by rw [List.length_cons] at hl; omega
    show (forIn (k :: List.range' (k + 1) (xs.length + 1)) st (StrLaws.occBody z ⟨#[c]⟩ z.length lim)).run.fst.toList = _
    rw [List.forIn_cons]
    by_cases c1 : x = c ∧ st.1.size < lim
    · have hb : StrLaws.occBody z ⟨#[c]⟩ z.length lim k st = pure (ForInStep.yield (st.fst.push k, k + 1)) := by
        unfold StrLaws.occBody
        exact if_pos ⟨⟨⟨c1.2, h2⟩, by show k + 1 ≤ z.length; omega⟩, (sub_one z c k hd).mpr c1.1⟩
      rw [hb]
      have ih := occ_loopN z c lim xs (k + 1) (st.fst.push k, k + 1) hd' hl' (Nat.le_refl _)
      have e : lim - st.1.size = (lim - (st.1.push k).size) + 1 := by rw [Array.size_push]; omega
      simp only [cutsF, c1.1, if_true]
      refine Eq.trans ih ?_
      rw [e, List.take_succ_cons]
      simp
    · have hb : StrLaws.occBody z ⟨#[c]⟩ z.length lim k st = pure (ForInStep.yield (st.fst, st.snd)) := by
        unfold StrLaws.occBody
        exact if_neg fun h => c1 ⟨(sub_one z c k hd).mp h.2, h.1.1.1⟩
      rw [hb]
      have ih := occ_loopN z c lim xs (k + 1) (st.fst, st.snd) hd' hl' (by show st.2 ≤ k + 1; omega)
      refine Eq.trans ih ?_
      by_cases c2 : x = c
      · have : lim - st.1.size = 0 := by
          rcases Nat.lt_or_ge st.1.size lim with z1 | z1
          · exact absurd ⟨c2, z1⟩ c1
          · omega
        simp only [this, List.take_zero]
      · simp only [cutsF, c2, if_false]
theorem occ_cutsN (z : Str) (c lim : Nat) : occurrences z ⟨#[c]⟩ 0 z.length lim = (cutsF c z.cps.toList 0).take lim := by
  rw [StrLaws.occ_eq]
  have := occ_loopN z c lim z.cps.toList 0 (#[], 0) rfl (by simp [Str.length]) (Nat.le_refl _)
  have e : z.length + 1 - 0 = z.cps.toList.length + 1 := by simp [Str.length]
  rw [e, this]
  simp
theorem splitMax_spl (z : Str) (c n : Nat) (hc : c < 256) : Txt.splitMax z ⟨#[c]⟩ (n : Int) = (splN c z.cps.toList n).map tx := by
  have lim : limitOf z (n : Int) = n := by
    unfold limitOf
    rw [if_neg (by omega)]
    omega
  have main : partsBetween z (occurrences z ⟨#[c]⟩ 0 z.length (limitOf z n)) 1 = (splN c z.cps.toList n).map tx := by
    rw [lim, occ_cutsN]
    unfold partsBetween
    have := parts_splN z c z.cps.toList 0 0 n rfl (by simp [Str.length]) (Nat.le_refl _)
    obtain ⟨h, t, e⟩ := splN_cons c z.cps.toList n
    rw [e] at this ⊢
    simp only [Nat.sub_self, List.take_zero, List.nil_append] at this
    exact this
  have one : (cutsF c z.cps.toList 0).take n = [] → (splN c z.cps.toList n).map tx = [z] := fun e => by
    rw [← main, lim, occ_cutsN, e]
    have e3 : (z.cps.toList.take z.cps.size) = z.cps.toList := List.take_of_length_le (by simp)
    simp [partsBetween, sub_list, Str.length, e3, tx_cps]
  unfold Txt.splitMax
  split
  · rename_i h
    have k1 : Builtin.Str.strKind ⟨#[c]⟩ = 1 := by simp [Builtin.Str.strKind, hc]
    have kz : 1 ≤ Builtin.Str.strKind z := by unfold Builtin.Str.strKind; split <;> (try split) <;> decide
    have lz : z.length = 0 := by
      rw [k1, Bool.or_eq_true, decide_eq_true_eq, decide_eq_true_eq] at h
      have e1 : (⟨#[c]⟩ : Str).length = 1 := rfl
      omega
    have ez : z.cps.toList = [] := List.eq_nil_of_length_eq_zero (by simpa [Str.length] using lz)
    rw [one (by rw [ez]; simp [cutsF])]
  · split
    · rename_i h
      rw [lim, occ_cutsN] at h
      rw [one (List.isEmpty_iff.mp h)]
    · exact main
theorem cutsF_head (c : Nat) : ∀ (l : List Nat) (k : Nat), (cutsF c l k = [] → l.takeWhile (· != c) = l) ∧ ∀ i r, cutsF c l k = i :: r → k ≤ i ∧ l.takeWhile (· != c) = l.take (i - k)
  | [], k => ⟨fun _ => rfl, fun i r h => nomatch h⟩
  | x :: xs, k => by
    obtain ⟨a, b⟩ := cutsF_head c xs (k + 1)
    unfold cutsF
    by_cases e : x = c
    · rw [if_pos e]
      refine ⟨(fun h => nomatch h), fun i r h => ?_⟩
      injection h with h1 h2
      subst h1
      rw [Nat.sub_self, List.take_zero, List.takeWhile_cons]
      simp [e]
    · rw [if_neg e, List.takeWhile_cons]
      have ne : (x != c) = true := by simp [e]
      rw [ne]
      refine ⟨fun h => ?_, fun i r h => ?_⟩
      · simp only [if_true]
        rw [a h]
      · obtain ⟨h1, h2⟩ := b i r h
        refine ⟨by omega, ?_⟩
        simp only [if_true]
        rw [h2, show i - k = (i - (k + 1)) + 1 by omega, List.take_succ_cons]
theorem partition_hd (z : Str) (c : Nat) : (Txt.partition z ⟨#[c]⟩).1 = tx (z.cps.toList.takeWhile (· != c)) := by
  obtain ⟨a, b⟩ := cutsF_head c z.cps.toList 0
  unfold Txt.partition
  rw [occ_cutsN]
  cases e : cutsF c z.cps.toList 0 with
  | nil =>
    simp only [List.take_nil]
    rw [a e, tx_cps]
  | cons i r =>
    obtain ⟨_, h⟩ := b i r e
    rw [List.take_succ_cons]
    simp only
    rw [sub_list, h]
    simp
theorem splN_free {c : Nat} : ∀ {p : List Nat} (n : Nat), c ∉ p → splN c p n = [p]
  | [], _, _ => rfl
  | x :: xs, n, h => by
    have ih := splN_free (c := c) (p := xs) n fun z => h (List.mem_cons_of_mem _ z)
    rw [splN_x]
    split
    · rfl
    · rw [if_neg (fun e => h (by simp [e])), ih]
theorem splN_app {c : Nat} {r : List Nat} : ∀ {p : List Nat} (n : Nat), c ∉ p → splN c (p ++ c :: r) (n + 1) = p :: splN c r n
  | [], n, _ => by
    show splN c (c :: r) (n + 1) = _
    rw [splN_x, if_neg (by omega), if_pos rfl]
    rfl
  | x :: xs, n, h => by
    have ih := splN_app (c := c) (p := xs) (r := r) n fun z => h (List.mem_cons_of_mem _ z)
    show splN c (x :: (xs ++ c :: r)) (n + 1) = _
    rw [splN_x, if_neg (by omega), if_neg (fun e => h (by simp [e])), ih]
theorem splN_glu {c : Nat} : ∀ (ws : List (List Nat)) (n : Nat), ws ≠ [] → ws.length ≤ n + 1 → (∀ p ∈ ws.dropLast, c ∉ p) → (ws.length ≤ n → ∀ p ∈ ws, c ∉ p) → splN c (glu c ws) n = ws
  | [], _, h, _, _, _ => absurd rfl h
  | [p], 0, _, _, _, _ => splN_zero c p
  | [p], n + 1, _, _, _, h => splN_free (n + 1) (h (by simp) p (by simp))
  | p :: q :: r, 0, _, h, _, _ => by simp at h
  | p :: q :: r, n + 1, _, h, h1, h2 => by
    show splN c (p ++ c :: glu c (q :: r)) (n + 1) = _
    rw [splN_app n (h1 p (by simp [List.dropLast])), splN_glu (q :: r) n (by simp) (by simp at h ⊢; omega) (fun x hx => h1 x (by simp [List.dropLast] at hx ⊢; simp [hx])) (fun k x hx => h2 (by simp at k ⊢; omega) x (by simp at hx ⊢; simp [hx]))]
theorem splN_small {c : Nat} : ∀ {l : List Nat} {n : Nat} {w : List Nat}, w ∈ splN c l n → w.length ≤ l.length ∧ ∀ x ∈ w, x ∈ l
  | [], n, w, h => by
    have : w = [] := by simpa [splN] using h
    rw [this]
    exact ⟨Nat.le_refl _, fun x hx => hx⟩
  | y :: ys, n, w, h => by
    rw [splN_x] at h
    split at h
    · rw [List.mem_singleton.mp h]
      exact ⟨Nat.le_refl _, fun x hx => hx⟩
    · split at h
      · rcases List.mem_cons.mp h with rfl | h
        · exact ⟨Nat.zero_le _, fun x hx => by cases hx⟩
        · obtain ⟨a, b⟩ := splN_small h
          exact ⟨by rw [List.length_cons]; omega, fun x hx => List.mem_cons_of_mem _ (b x hx)⟩
      · obtain ⟨p, t, e⟩ := splN_cons c ys n
        rw [e] at h
        have ih := fun w (hw : w ∈ p :: t) => splN_small (c := c) (l := ys) (n := n) (w := w) (by rw [e]; exact hw)
        rcases List.mem_cons.mp h with rfl | h
        · obtain ⟨a, b⟩ := ih p (by simp)
          refine ⟨by rw [List.length_cons, List.length_cons]; omega, fun x hx => ?_⟩
          rcases List.mem_cons.mp hx with rfl | hx
          · exact List.mem_cons_self
          · exact List.mem_cons_of_mem _ (b x hx)
        · obtain ⟨a, b⟩ := ih w (List.mem_cons_of_mem _ h)
          exact ⟨by rw [List.length_cons]; omega, fun x hx => List.mem_cons_of_mem _ (b x hx)⟩
end SM
namespace L2
open PySem PySem.Spec PySem.Calls PyProof.Rows PySem.W SM
section
variable {X : Cx}
theorem mt_partition : MtR X "str.partition" (fun x vs H Q => ∃ (z y : Str), x = .str z ∧ vs = [.str y] ∧ (y.length == 0) = false ∧ z.length ≤ sizeLine ∧ ∀ D, H D = none → Q (.ref D) (upd H D (.tup [.str (Txt.partition z y).1, .str (Txt.partition z y).2.1, .str (Txt.partition z y).2.2]))) := by
  intro pins s σ H x vs v us Q I rx rs h
  obtain ⟨z, y, rfl, rfl, hy, hz, q⟩ := h
  obtain ⟨t, rfl⟩ := rx
  obtain ⟨w, rfl, u, rfl⟩ := Vals.one rs
  refine call_meets PySem.F.slot_str_partition (typeIs_str _ _ _) PySem.F.entry_str_partition (PySem.F.args_str_partition_2 _ _) (meets_str_partition z y t u hy hz) ?_
  have q2 := q _ I.fresh
  unfold Txt.partition at q2
  cases e : Builtin.Str.occurrences z y 0 z.length 1 with
  | nil =>
    rw [e] at q2
    refine ⟨.ref _, _, I.laid (o := .tup [.str z, .str Str.empty, .str Str.empty]) (t' := s.toks + 1) (fun b u e => Heap.get?_push_of_some _ e) (Nat.le_refl _) ⟨by show 3 ≤ sizeLine; decide, _, .cons ⟨t, rfl⟩ (.cons ⟨s.toks, rfl⟩ (.cons ⟨s.toks, rfl⟩ .nil)), ⟨_, Heap.get?_push_size _ rfl, rfl, _, rfl⟩⟩, rfl, q2⟩
  | cons i r =>
    rw [e] at q2
    refine ⟨.ref _, _, I.laid (o := .tup [.str (Builtin.Str.strSub z 0 i), .str y, .str (Builtin.Str.strSub z (i + y.length) z.length)]) (t' := s.toks + 1 + 1) (fun b u e => Heap.get?_push_of_some _ e) (Nat.le_refl _) ⟨by show 3 ≤ sizeLine; decide, _, .cons ⟨s.toks, rfl⟩ (.cons ⟨u, rfl⟩ (.cons ⟨s.toks + 1, rfl⟩ .nil)), ⟨_, Heap.get?_push_size _ rfl, rfl, _, rfl⟩⟩, rfl, q2⟩
theorem mt_splitM : MtR X "str.split" (fun x vs H Q => ∃ (z y : Str) (n : Nat), x = .str z ∧ vs = [.str y, .int (n : Int)] ∧ (y.length == 0) = false ∧ n < 1000 ∧ z.length + 10 ≤ sizeLine ∧ ∀ D, H D = none → Q (.ref D) (upd H D (.lst ((Txt.splitMax z y (n : Int)).map V.str)))) := by
  intro pins s σ H x vs v us Q I rx rs h
  obtain ⟨z, y, n, rfl, rfl, hy, hn, hz, q⟩ := h
  obtain ⟨t, rfl⟩ := rx
  obtain ⟨u0, w0, rfl, r1, r2⟩ := Vals.two rs
  obtain ⟨u, rfl⟩ := r1
  obtain ⟨k0, rfl⟩ := r2
  have hk : (decide ((n : Int) < -(2 ^ 63 : Int)) || decide ((n : Int) ≥ 2 ^ 63)) = false := by
    rw [decide_eq_false (by omega), decide_eq_false (by omega)]
    rfl
  have ln : (Builtin.Str.partsBetween z (Builtin.Str.occurrences z y 0 z.length (limitOf z n)) y.length).length ≤ sizeLine := by
    have := PySem.StrLaws.occ_length_le z y 0 z.length (limitOf z n)
    have lm : limitOf z n = n := by
      unfold limitOf
      rw [if_neg (by omega)]
      omega
    have e : sizeLine = 16777216 := rfl
    simp only [Builtin.Str.partsBetween, List.length_map, List.length_zip, List.length_cons, List.length_append, List.length_nil]
    omega
  have fin : ∀ (l : List (Str × Tok)) (tk : Nat), l.map (·.1) = Txt.splitMax z y n → EP X pins σ Q (.ref s.heap.objs.size) { s with toks := tk, heap := s.heap.push { cls := .type "list", data := .seq (strValues l).toArray } } := fun l tk e => by
    have e2 : (Txt.splitMax z y n).map V.str = l.map fun p => V.str p.1 := by rw [← e, List.map_map]; rfl
    have ll : l.length ≤ sizeLine := by
      have : l.length = (Txt.splitMax z y n).length := by rw [← e, List.length_map]
      rw [this]
      unfold Txt.splitMax
      split
      · show 1 ≤ sizeLine; decide
      · split
        · show 1 ≤ sizeLine; decide
        · exact ln
    have q2 := q _ I.fresh
    rw [e2] at q2
    exact ⟨.ref _, _, I.lnew (t' := tk) (strs_vals l) (by rw [List.length_map]; exact ll), rfl, q2⟩
  cases h1 : (decide (z.length < y.length) || decide (Builtin.Str.strKind z < Builtin.Str.strKind y)) with
  | true =>
    refine call_meets PySem.F.slot_str_split (typeIs_str _ _ _) PySem.F.entry_str_split (PySem.F.args_str_split_3 _ _ _) (meets_str_split_max_cannot_occur z y n t u k0 hk h1) ?_
    exact fin [(z, t)] s.toks (by unfold Txt.splitMax; rw [if_pos h1]; rfl)
  | false =>
    cases h2 : (Builtin.Str.occurrences z y 0 z.length (limitOf z n)).isEmpty with
    | true =>
      refine call_meets PySem.F.slot_str_split (typeIs_str _ _ _) PySem.F.entry_str_split (PySem.F.args_str_split_3 _ _ _) (meets_str_split_max_not_found z y n t u k0 hk h1 hy h2) ?_
      exact fin [(z, t)] s.toks (by unfold Txt.splitMax; rw [if_neg (by rw [h1]; decide), if_pos h2]; rfl)
    | false =>
      refine call_meets PySem.F.slot_str_split (typeIs_str _ _ _) PySem.F.entry_str_split (PySem.F.args_str_split_3 _ _ _) (meets_str_split_sep_max z y n t u k0 hk h1 hy h2 (by omega) ln) ?_
      rw [strsFrom_eq]
      exact fin _ _ (by rw [numbered_texts]; unfold Txt.splitMax; rw [if_neg (by rw [h1]; decide), if_neg (by rw [h2]; decide)])
def strIs (z : Str) : Value → Bool
  | .str a _ => a == z
  | _ => false
theorem any_strs {z : Str} {t : Tok} : ∀ {ys : List Str} {its : List Value}, Vals (ys.map V.str) its → its.any (strIs z) = ys.contains z ∧ ∀ (A : Around) (s : Shared), ∀ y ∈ its, SeqAt.EqAt A s y (.str z t) (strIs z y)
  | [], _, .nil => ⟨rfl, fun _ _ y hy => nomatch hy⟩
  | y :: ys, _, .cons r rs => by
    obtain ⟨t1, rfl⟩ := r
    obtain ⟨a, b⟩ := any_strs (z := z) (t := t) rs
    refine ⟨?_, fun A s v hv => ?_⟩
    · rw [List.any_cons, List.contains_cons, a]
      congr 1
      show (y == z) = (z == y)
      rw [Bool.eq_iff_iff, beq_iff_eq, beq_iff_eq]
      exact ⟨Eq.symm, Eq.symm⟩
    · rcases List.mem_cons.mp hv with rfl | hv
      · exact SeqAt.EqAt.str_str y t1 z t
      · exact b A s v hv
theorem op_inT : OpR X (compareOp .In) (fun x y H Q => ∃ (z : Str) (a : Addr) (ys : List Str), x = .str z ∧ y = .ref a ∧ SqT X.K H a (ys.map V.str) ∧ Q (.bl (ys.contains z)) H) := by
  intro pins s σ H x y v u Q I rx ry h
  obtain ⟨z, a, ys, rfl, rfl, hq, q⟩ := h
  obtain ⟨t, rfl⟩ := rx
  cases ry
  obtain ⟨its, rv, it, _⟩ := I.tuple hq
  obtain ⟨e1, e2⟩ := any_strs (z := z) (t := t) rv
  refine SeqAt.in_tupleAt (strIs z) it (fun y hy => e2 _ _ y (by simpa using hy)) ?_
  rw [List.any_toArray, e1]
  exact ⟨.bl _, H, I, rfl, q⟩
end
def CDT (P : Program) (w : World) (K : PySem.W.Frag) (mg : Str → Option Value) (x : Str) (tb : List (Str × List Str)) : Prop :=
  ∃ (a : Addr) (o : Obj) (kvs : List (Key × Value)), mg x = some (.ref a) ∧ K.lookup a = some o ∧ (a == sysModules) = false ∧ o.dict = none ∧ (∀ h : Heap, h.get? a = some o → h.DictOf (mixKind P w) a kvs) ∧
    Paired (fun (p : Str × List Str) (q : Key × Value) => q.1 = .inr p.1 ∧ ∃ b, q.2 = .ref b ∧ ∀ H, SqT K H b (p.2.map V.str)) tb kvs
theorem cdt_at {K : PySem.W.Frag} {z : Str} : ∀ {tb : List (Str × List Str)} {kvs : List (Key × Value)}, Paired (fun (p : Str × List Str) (q : Key × Value) => q.1 = .inr p.1 ∧ ∃ b, q.2 = .ref b ∧ ∀ H, SqT K H b (p.2.map V.str)) tb kvs →
    (tb.lookup z = none ∧ valueAt kvs (.inr z) = none) ∨ ∃ ys b, tb.lookup z = some ys ∧ valueAt kvs (.inr z) = some (.ref b) ∧ ∀ H, SqT K H b (ys.map V.str)
  | [], _, .nil => .inl ⟨rfl, rfl⟩
  | p :: tb, q :: kvs, .cons r rs => by
    obtain ⟨k, ys⟩ := p
    obtain ⟨k2, v⟩ := q
    obtain ⟨e1, b, e2, hb⟩ := r
    simp only at e1 e2 hb
    subst e1 e2
    by_cases c : k = z
    · subst c
      refine .inr ⟨ys, b, by simp [List.lookup], by simp [valueAt], hb⟩
    · have c1 : ¬ z = k := fun e => c e.symm
      have e3 : ((k, ys) :: tb).lookup z = tb.lookup z := by
        rw [List.lookup_cons, beq_eq_false_iff_ne.mpr c1]
      have e4 : valueAt ((Sum.inr k, Value.ref b) :: kvs) (Sum.inr z : Key) = valueAt kvs (.inr z) := by
        have c2 : ¬ (Sum.inr k : Key) = Sum.inr z := fun e => c (Sum.inr.inj e)
        simp [valueAt, List.find?_cons, c]
      rw [e3, e4]
      exact cdt_at rs
def tCGet (K : PySem.W.Frag) (tb : List (Str × List Str)) (ty : TE) : TE := fun σ H Q => ty σ H fun y H2 => ∃ z, y = .str z ∧ (tb.lookup z = none → Q .non H2) ∧ ∀ ys b, tb.lookup z = some ys → SqT K H2 b (ys.map V.str) → Q (.ref b) H2
theorem tCGet_ap {K : PySem.W.Frag} {tb : List (Str × List Str)} {ty : TE} {σ : St} {H : Hp} {Q : VK} : tCGet K tb ty σ H Q = ty σ H fun y H2 => ∃ z, y = .str z ∧ (tb.lookup z = none → Q .non H2) ∧ ∀ ys b, tb.lookup z = some ys → SqT K H2 b (ys.map V.str) → Q (.ref b) H2 := rfl
theorem pe_cget {X : Cx} {x : Str} {tb : List (Str × List Str)} {e : Expr} {p apos cpos : Pos} {ty : TE} (hc : CDT X.prog X.w X.K X.mg x tb) (hg : Gl X x) (he : PE X e ty) (m : M1 X (.Name x p) "get" apos e cpos) (hdb : (x == ("__debug__" : Str)) = false := by decide) :
    PE X (.Call (.Attribute (.Name x p) "get" apos) [e] [] cpos) (tCGet X.K tb ty) := by
  intro pins s σ H Q I h
  obtain ⟨a, o, kvs, hm, hk, hs, hd, hh, hp⟩ := hc
  have g := pe_glob (X := X) (x := x) (pos := p) (v := .ref a) hg hm rfl hdb pins s σ H (fun v H1 => v = .ref a ∧ H1 = H) I (show (tC (.ref a) : TE) σ H _ from ⟨rfl, rfl⟩)
  refine wpAny_Call_method m.base m.few m.line PySem.F.plainAttrs_dict PySem.F.slot_dict_get PySem.F.type_dict_get (thn g fun u s1 ⟨x1, H1, I1, rx, e1, e2⟩ => ?_)
  subst e1 e2
  obtain rfl : u = Value.ref a := rx
  have ho := I1.kIn a o hk
  have dd := hh _ ho
  refine ⟨dd.typeIs, fun b q => ?_, ?_⟩
  · cases q
    exact ⟨o, ho, hd⟩
  rw [m.trees]
  refine Calls.callWith_builtin rfl (Calls.evalArgs_plain (Calls.spliced_cons (thn (he pins s1 σ H1 _ I1 h) fun iv s2 ⟨y, H2, I2, ry, z, ey, q1, q2⟩ => Calls.spliced_nil ?_)))
  subst ey
  have dd2 := hh _ (I2.kIn a o hk)
  refine call_meetsIn PySem.F.slot_dict_get dd2.typeIs PySem.F.entry_dict_get (PySem.F.args_dict_get_2 _ _) (meets_dict_get (mixKind X.prog X.w) a (kV_is (k := .inr z) ry) hs) ⟨_, dd2.mapOf, ?_⟩
  rcases cdt_at (z := z) hp with ⟨l1, l2⟩ | ⟨ys, b, l1, l2, hb⟩
  · have e : (valueAt kvs (Sum.inr z : Key)).getD Value.none = .none := by rw [l2]; rfl
    refine ⟨.non, H2, I2.tok _, ?_, q1 l1⟩
    exact e
  · have e : (valueAt kvs (Sum.inr z : Key)).getD Value.none = .ref b := by rw [l2]; rfl
    refine ⟨.ref b, H2, I2.tok _, ?_, q2 ys b l1 (hb H2)⟩
    exact e
inductive CPairs (w : World) (K : PySem.W.Frag) : List DictEntry → List (Str × List Str) → Prop
  | nil : CPairs w K [] []
  | cons {e : DictEntry} {es : List DictEntry} {x : Str} {t : Tok} {ys : List Str} {tb : List (Str × List Str)} {b : Addr} {o : Obj} {its : Array Value} {n : Nat} : e.key = .str x t → e.hash = hashStr w x → e.val = .ref b → K.lookup b = some o → o.cls = .type "tuple" → o.data = .seq its n → its.size ≤ sizeLine → Vals (ys.map V.str) its.toList → CPairs w K es tb → CPairs w K (e :: es) ((x, ys) :: tb)
theorem cpairs_of {P : Program} {w : World} {K : PySem.W.Frag} {es : List DictEntry} {tb : List (Str × List Str)} (h : CPairs w K es tb) : ∃ kvs : List (Key × Value), (∀ e ∈ es, ∃ k, (mixKind P w).is k e.key = true ∧ e.hash = (mixKind P w).hash k) ∧ Pairs (mixKind P w) es kvs ∧ kvs.map (·.1) = tb.map (fun p => (Sum.inr p.1 : Key)) ∧
    Paired (fun (p : Str × List Str) (q : Key × Value) => q.1 = .inr p.1 ∧ ∃ b, q.2 = .ref b ∧ ∀ H, SqT K H b (p.2.map V.str)) tb kvs := by
  induction h with
  | nil => exact ⟨[], (fun e he => nomatch he), .nil, rfl, .nil⟩
  | @cons e es x t ys tb b o its n h1 h2 h3 h4 h5 h6 h7 h8 _ ih =>
    obtain ⟨kvs, a1, a2, a3, a4⟩ := ih
    have k1 : (mixKind P w).is (Sum.inr x) e.key = true := by rw [h1]; exact mixKind_str P w x t
    refine ⟨(Sum.inr x, .ref b) :: kvs, fun e' he' => ?_, .cons k1 h3 a2, by simp [a3], .cons ⟨rfl, b, rfl, fun H => .inr ⟨o, its, n, h4, h5, h6, h7, h8⟩⟩ a4⟩
    rcases List.mem_cons.mp he' with rfl | he'
    · exact ⟨Sum.inr x, k1, h2⟩
    · exact a1 e' he'
theorem cdt_mk {P : Program} {w : World} {K : PySem.W.Frag} {h : Heap} {mg : Str → Option Value} {x : Str} {tb : List (Str × List Str)} {a : Addr} {o : Obj} {es : Array DictEntry} {ep : _} (X : K.In h) (G : h.Ns mainGlobals mg) (e : PySem.W.nsIn K mainGlobals x = some (some (.ref a)))
    (l : K.lookup a = some o) (sm : (a == sysModules) = false) (ex : o.ExactDict) (d : o.data = .dict es ep) (cp : CPairs w K es.toList tb) (nd : (tb.map (·.1)).Nodup) : CDT P w K mg x tb := by
  obtain ⟨kvs, a1, a2, a3, a4⟩ := cpairs_of (P := P) cp
  refine ⟨a, o, kvs, PySem.W.mg_of X G e, l, sm, ex.2.1, fun h ho => ⟨o, es, ep, ho, ex, d, fun e he => a1 e (by simpa using he), a2, ?_⟩, a4⟩
  rw [a3]
  have : tb.map (fun p => (Sum.inr p.1 : Key)) = (tb.map (·.1)).map Sum.inr := by rw [List.map_map]; rfl
  rw [this]
  exact nd.map _ fun _ _ h e => h (Sum.inr.inj e)
section
variable {X : Cx} {σ : St} {H : Hp} {Q : VK} {D : Ends} {td ty tv : TE} {e : Expr}
theorem mt_starts : MtR X "str.startswith" (fun x vs H Q => ∃ (z y : Str), x = .str z ∧ vs = [.str y] ∧ Q (.bl (decide (0 + y.length ≤ z.length) && Builtin.Str.subAt z y 0)) H) := by
  intro pins s σ H x vs v us Q I rx rs h
  obtain ⟨z, y, rfl, rfl, q⟩ := h
  obtain ⟨t, rfl⟩ := rx
  obtain ⟨u, rfl, r1⟩ := Vals.one rs
  obtain ⟨t1, rfl⟩ := r1
  exact call_gives PySem.F.slot_str_startswith (typeIs_str _ _ _) PySem.F.entry_str_startswith (PySem.F.args_str_startswith_2 _ _) (gives_str_startswith z y t t1) ⟨.bl _, H, I.tok _, rfl, q⟩
def tNo : TE := fun _ _ _ => False
theorem tNo_ap : tNo σ H Q = False := rfl
theorem tDGet_ap : tDGet td ty σ H Q = td σ H fun x H1 => ty σ H1 fun y H2 => ∃ a v, x = .ref a ∧ DGet H2 a y (some v) ∧ Q v H2 := rfl
theorem tDIn_ap : tDIn ty td σ H Q = ty σ H fun y H1 => td σ H1 fun x H2 => ∃ a o, x = .ref a ∧ DGet H2 a y o ∧ Q (.bl o.isSome) H2 := rfl
theorem tDNotIn_ap : tDNotIn ty td σ H Q = ty σ H fun y H1 => td σ H1 fun x H2 => ∃ a o, x = .ref a ∧ DGet H2 a y o ∧ Q (.bl (!o.isSome)) H2 := rfl
theorem sDPut_ap : sDPut td ty tv D σ H = tv σ H fun v H1 => td σ H1 fun x H2 => ty σ H2 fun y H3 => ∃ a H4, x = .ref a ∧ DPut H3 a y v H4 ∧ D.nx σ H4 := rfl
theorem tDNewK_ap : tDNewK σ H Q = ∀ p, H p = none → Q (.ref p) (upd H p (.dK [])) := rfl
end
end L2
namespace L2
open PySem PySem.Spec PyProof.Rows
structure Apart2 (Z Ti To j1 j2 m1 m2 : Addr) : Prop where
  nd : [Z, Ti, To, j1, j2].Nodup
  ls : ∀ m ∈ [m1, m2], m ∉ [Z, To, j1, j2]
def Kept2 (Z To j1 j2 : Addr) (h h' : Heap) : Prop := ∀ c o, c ∉ [Z, To, j1, j2] → h.get? c = some o → h'.get? c = some o
theorem Kept2.but {Z To j1 j2 b : Addr} {h h1 h2 : Heap} (k : Kept2 Z To j1 j2 h h1) (hb : b ∈ [Z, To, j1, j2]) (e : Heap.SameBut b h1 h2) : Kept2 Z To j1 j2 h h2 := fun c o hc q => e.extBut _ _ (fun z => hc (by rw [z]; exact hb)) (k c o hc q)
theorem tit_ext {h h' : Heap} {J tu b : Addr} {k : Nat} (x : h.IsTupleIter J tu k) (e : Heap.ExtBut b h h') (n : J ≠ b) : h'.IsTupleIter J tu k := by
  obtain ⟨o, ho, r⟩ := x
  exact ⟨o, e _ _ n ho, r⟩
section
variable {prog : Program} {w : World} {A : Around} {E : Value → Shared → Prop} {s : Shared}
theorem next_duo {Z Ti To j1 j2 m1 m2 : Addr} {n : Nat} {us vs : Array Value} {x y a b : Value} {Q : Value → Shared → Prop} (D : Apart2 Z Ti To j1 j2 m1 m2)
    (zz : IsZip s.heap Z Ti To .none) (zI : IsPair s.heap Ti (.ref j1) (.ref j2)) (zO : IsPair s.heap To a b)
    (k1 : s.heap.IsTupleIter j1 m1 n) (k2 : s.heap.IsListIter j2 m2 n) (e1 : s.heap.IsTuple m1 us) (e2 : s.heap.IsList m2 vs) (hx : us[n]? = some x) (hy : vs[n]? = some y)
    (hQ : ∀ h', IsZip h' Z Ti To (rawInt s.heap.objs.size) → IsPair h' To x y → h'.IsTupleIter j1 m1 (n + 1) → h'.IsListIter j2 m2 (n + 1) → IsPair h' s.heap.objs.size x y → Kept2 Z To j1 j2 s.heap h' → Q (.ref s.heap.objs.size) { s with heap := h' }) :
    wpAny (model prog w) A (Builtin.«zip.__next__» ⟨[.ref Z], []⟩) (fun f s' => ∃ r, f = .done (.ret r) ∧ Q r s') E s := by
  obtain ⟨nd, ls⟩ := D
  simp only [List.nodup_cons, List.mem_cons, List.not_mem_nil, or_false, not_or, not_false_eq_true, List.nodup_nil, and_true] at nd
  obtain ⟨⟨d1, d2, d3, d4⟩, ⟨d6, d7, d8⟩, ⟨d10, d11⟩, d13⟩ := nd
  have l1 := ls m1 (by simp)
  have l2 := ls m2 (by simp)
  simp only [List.mem_cons, List.not_mem_nil, or_false, not_or] at l1 l2
  show wpAny _ _ (field (.ref Z) 2 >>= _) _ _ _
  refine wpAny_bind (wpAny_field zz rfl (x := .bool false) rfl ?_)
  show wpAny _ _ (field (.ref Z) 3 >>= _) _ _ _
  refine wpAny_bind (wpAny_field zz rfl (x := .ref Ti) rfl (wpAny_bind (wpAny_seqItems zI rfl ?_)))
  show wpAny _ _ (Builtin.SmallTypes.ownedTupleIsFree (.ref Z) >>= _) _ _ _
  refine wpAny_bind (by
    unfold Builtin.SmallTypes.ownedTupleIsFree
    refine wpAny_bind (wpAny_field zz rfl (x := .none) rfl (wpAny_pure ?_))
    simp only [if_true]
    refine wpAny_bind (wpAny_rule (wpAny_bind (wpAny_field zz rfl (x := .ref To) rfl (wpAny_bind (wpAny_setField_rec zz (by simp) fun g1 z1 s1 => ?_)))))
    replace z1 : IsZip g1 Z Ti To .ellipsis := z1
    refine wpAny_bind ?_
    simp only [List.forIn_cons, List.forIn_nil, List.zipIdx_cons, List.zipIdx_nil]
    refine wpAny_bind (wpAny_bind (wpAny_onRaise ?_))
    show wpAny _ _ (Builtin.SmallTypes.nextOf (.ref j1) >>= _) _ _ _
    refine wpAny_bind (nextT_item (tit_ext k1 s1.extBut (Ne.symm d3)) (e1.extBut s1.extBut l1.1) hx fun g2 p1 s2 => wpAny_pure ?_)
    have o2 : IsPair g2 To a b := s2.extBut _ _ d10 (s1.extBut _ _ (Ne.symm d2) zO)
    refine wpAny_bind (wpAny_seqItems o2 rfl (wpAny_bind (wpAny_updateSeq_pair o2 fun g3 o3 s3 => ?_)))
    replace o3 : IsPair g3 To x b := o3
    refine wpAny_bind (wpAny_letGo (wpAny_pure ?_))
    refine wpAny_bind (wpAny_bind (wpAny_onRaise ?_))
    show wpAny _ _ (Builtin.SmallTypes.nextOf (.ref j2) >>= _) _ _ _
    refine wpAny_bind (wpAny_nextOf_list_item (((k2.extBut s1.extBut (Ne.symm d4)).extBut s2.extBut (Ne.symm d13)).extBut s3.extBut (Ne.symm d11)) (((e2.extBut s1.extBut l2.1).extBut s2.extBut l2.2.2.1).extBut s3.extBut l2.2.1) hy fun g4 p2 s4 => wpAny_pure ?_)
    have o4 : IsPair g4 To x b := s4.extBut _ _ d11 o3
    refine wpAny_bind (wpAny_seqItems o4 rfl (wpAny_bind (wpAny_updateSeq_pair o4 fun g5 o5 s5 => ?_)))
    replace o5 : IsPair g5 To x y := o5
    refine wpAny_bind (wpAny_letGo (wpAny_pure (wpAny_pure ?_)))
    refine wpAny_bind (wpAny_seqItems o5 rfl (wpAny_bind (wpAny_newTuple ?_)))
    have sz : g5.objs.size = s.heap.objs.size := by rw [s5.1, s4.1, s3.1, s2.1, s1.1]
    have z5 : IsZip g5 Z Ti To .ellipsis := s5.extBut _ _ d2 (s4.extBut _ _ d4 (s3.extBut _ _ d2 (s2.extBut _ _ d3 z1)))
    have K5 : Kept2 Z To j1 j2 s.heap g5 := ((((Kept2.but (fun c o _ q => q) (by simp) s1).but (by simp) s2).but (by simp) s3).but (by simp) s4).but (by simp) s5
    have q1 : g5.IsTupleIter j1 m1 (n + 1) := tit_ext (tit_ext (tit_ext p1 s3.extBut (Ne.symm d10)) s4.extBut d13) s5.extBut (Ne.symm d10)
    have q2 : g5.IsListIter j2 m2 (n + 1) := p2.extBut s5.extBut (Ne.symm d11)
    have zlt : Z < g5.objs.size := Heap.lt_size z5
    show wpAny _ _ (Builtin.SmallTypes.ownedTupleHandOut (.ref Z) (.ref g5.objs.size) >>= _) _ _ _
    refine wpAny_bind (by
      unfold Builtin.SmallTypes.ownedTupleHandOut
      have z8 : IsZip (g5.push { cls := .type "tuple", data := .seq #[x, y] }) Z Ti To .ellipsis := Heap.get?_push_of_some _ z5
      refine wpAny_bind (wpAny_setField_rec z8 (by simp) fun g9 z9 s9 => ?_)
      replace z9 : IsZip g9 Z Ti To (rawInt g5.objs.size) := z9
      refine wpAny_setField_rec z9 (by simp) fun gA zA sA => ?_
      replace zA : IsZip gA Z Ti To (rawInt g5.objs.size) := zA
      have up : ∀ c o, c ≠ Z → g5.get? c = some o → gA.get? c = some o := fun c o hc q => sA.extBut _ _ hc (s9.extBut _ _ hc (Heap.get?_push_of_some _ q))
      have tA : IsPair gA g5.objs.size x y := sA.extBut _ _ (Nat.ne_of_gt zlt) (s9.extBut _ _ (Nat.ne_of_gt zlt) (Heap.get?_push_size _ rfl))
      rw [sz] at zA tA
      refine wpAny_pure ⟨_, rfl, ?_⟩
      show Q (.ref g5.objs.size) _
      rw [sz]
      refine hQ gA zA (up _ _ (Ne.symm d2) o5) ?_ (q2.at fun o q => up _ o (Ne.symm d4) q) tA fun c o hc q => up c o (fun z => hc (by rw [z]; simp)) (K5 c o hc q)
      obtain ⟨oj, hj, rj⟩ := q1
      exact ⟨oj, up _ oj (Ne.symm d3) hj, rj⟩))
theorem end_duo {Z Ti To j1 j2 m1 m2 : Addr} {n : Nat} {us vs : Array Value} {a b : Value} {Q : Fin → Shared → Prop} (hh : A.handled = none) (D : Apart2 Z Ti To j1 j2 m1 m2)
    (zz : IsZip s.heap Z Ti To .none) (zI : IsPair s.heap Ti (.ref j1) (.ref j2)) (zO : IsPair s.heap To a b)
    (k1 : s.heap.IsTupleIter j1 m1 n) (k2 : s.heap.IsListIter j2 m2 n) (e1 : s.heap.IsTuple m1 us) (e2 : s.heap.IsList m2 vs) (hend : us[n]? = none ∨ vs[n]? = none)
    (hE : ∀ h' e, Kept2 Z To j1 j2 s.heap h' → (∃ o, h'.get? e = some o ∧ o.cls = .type "StopIteration") → E (.ref e) { s with heap := h' }) :
    wpAny (model prog w) A (Builtin.«zip.__next__» ⟨[.ref Z], []⟩) Q E s := by
  obtain ⟨nd, ls⟩ := D
  simp only [List.nodup_cons, List.mem_cons, List.not_mem_nil, or_false, not_or, not_false_eq_true, List.nodup_nil, and_true] at nd
  obtain ⟨⟨d1, d2, d3, d4⟩, ⟨d6, d7, d8⟩, ⟨d10, d11⟩, d13⟩ := nd
  have l1 := ls m1 (by simp)
  have l2 := ls m2 (by simp)
  simp only [List.mem_cons, List.not_mem_nil, or_false, not_or] at l1 l2
  have fin : ∀ {g : Heap} {e : Addr}, IsZip g Z Ti To .ellipsis → Kept2 Z To j1 j2 s.heap g → (∃ o, g.get? e = some o ∧ o.cls = .type "StopIteration") → wpAny (model prog w) A (setField (.ref Z) 0 .none) (fun _ s' => E (.ref e) s') E { s with heap := g } := fun {g e} z K he => by
    obtain ⟨o, ho, hc⟩ := he
    have ez : e ≠ Z := fun q => by rw [q, z] at ho; cases ho; simp at hc
    exact wpAny_setField_rec z (by simp) fun g' _ s' => hE g' e (K.but (by simp) s') ⟨o, s'.extBut _ _ ez ho, hc⟩
  show wpAny _ _ (field (.ref Z) 2 >>= _) _ _ _
  refine wpAny_bind (wpAny_field zz rfl (x := .bool false) rfl ?_)
  show wpAny _ _ (field (.ref Z) 3 >>= _) _ _ _
  refine wpAny_bind (wpAny_field zz rfl (x := .ref Ti) rfl (wpAny_bind (wpAny_seqItems zI rfl ?_)))
  show wpAny _ _ (Builtin.SmallTypes.ownedTupleIsFree (.ref Z) >>= _) _ _ _
  refine wpAny_bind (by
    unfold Builtin.SmallTypes.ownedTupleIsFree
    refine wpAny_bind (wpAny_field zz rfl (x := .none) rfl (wpAny_pure ?_))
    simp only [if_true]
    refine wpAny_bind (wpAny_rule (wpAny_bind (wpAny_field zz rfl (x := .ref To) rfl (wpAny_bind (wpAny_setField_rec zz (by simp) fun g1 z1 s1 => ?_)))))
    replace z1 : IsZip g1 Z Ti To .ellipsis := z1
    have K1 : Kept2 Z To j1 j2 s.heap g1 := Kept2.but (fun c o _ q => q) (by simp) s1
    refine wpAny_bind ?_
    simp only [List.forIn_cons, List.forIn_nil, List.zipIdx_cons, List.zipIdx_nil]
    cases hx : us[n]? with
    | none =>
      refine wpAny_bind (wpAny_bind (wpAny_onRaise ?_))
      show wpAny _ _ (Builtin.SmallTypes.nextOf (.ref j1) >>= _) _ _ _
      refine wpAny_bind (nextT_end hh (tit_ext k1 s1.extBut (Ne.symm d3)) (e1.extBut s1.extBut l1.1) hx fun g2 e s2 he => ?_)
      exact fin (s2 _ _ d3 z1) (fun c o hc q => s2 _ _ (fun z => hc (by rw [z]; simp)) (K1 c o hc q)) he
    | some x =>
      refine wpAny_bind (wpAny_bind (wpAny_onRaise ?_))
      show wpAny _ _ (Builtin.SmallTypes.nextOf (.ref j1) >>= _) _ _ _
      refine wpAny_bind (nextT_item (tit_ext k1 s1.extBut (Ne.symm d3)) (e1.extBut s1.extBut l1.1) hx fun g2 p1 s2 => wpAny_pure ?_)
      have o2 : IsPair g2 To a b := s2.extBut _ _ d10 (s1.extBut _ _ (Ne.symm d2) zO)
      refine wpAny_bind (wpAny_seqItems o2 rfl (wpAny_bind (wpAny_updateSeq_pair o2 fun g3 o3 s3 => ?_)))
      replace o3 : IsPair g3 To x b := o3
      refine wpAny_bind (wpAny_letGo (wpAny_pure ?_))
      have z3 : IsZip g3 Z Ti To .ellipsis := s3.extBut _ _ d2 (s2.extBut _ _ d3 z1)
      have K3 := (K1.but (by simp) s2).but (by simp) s3
      have hy : vs[n]? = none := by
        rcases hend with q | q
        · rw [hx] at q; cases q
        · exact q
      refine wpAny_bind (wpAny_bind (wpAny_onRaise ?_))
      show wpAny _ _ (Builtin.SmallTypes.nextOf (.ref j2) >>= _) _ _ _
      refine wpAny_bind (wpAny_nextOf_list_end hh (((k2.extBut s1.extBut (Ne.symm d4)).extBut s2.extBut (Ne.symm d13)).extBut s3.extBut (Ne.symm d11)) (((e2.extBut s1.extBut l2.1).extBut s2.extBut l2.2.2.1).extBut s3.extBut l2.2.1) hy fun g4 e s4 he => ?_)
      exact fin (s4 _ _ d4 z3) (fun c o hc q => s4 _ _ (fun z => hc (by rw [z]; simp)) (K3 c o hc q)) he)
abbrev itT (m : Addr) : Obj := { cls := .type "tuple_iterator", data := .fields #[.ref m, .int 0 0] }
abbrev itL (m : Addr) : Obj := { cls := .type "list_iterator", data := .fields #[.ref m, .int 0 0] }
abbrev zipTL (h : Heap) (m1 m2 : Addr) : Heap := ((((h.push (itT m1)).push (itL m2)).push { cls := .type "tuple", data := .seq #[.ref h.objs.size, .ref (h.push (itT m1)).objs.size] }).push { cls := .type "tuple", data := .seq #[.none, .none] }).push
  { cls := .type "zip", data := .fields #[.none, .bool false, .bool false, .ref ((h.push (itT m1)).push (itL m2)).objs.size, .ref (((h.push (itT m1)).push (itL m2)).push { cls := .type "tuple", data := .seq #[.ref h.objs.size, .ref (h.push (itT m1)).objs.size] }).objs.size] }
theorem meets_newTL (m1 m2 : Addr) (us vs : Array Value) :
    Meets (Builtin.«zip.__new__» ⟨[.type "zip", .ref m1, .ref m2], []⟩) (fun _ R s => s.heap.IsTuple m1 us ∧ s.heap.IsList m2 vs ∧
      R (.ok (.ret (.ref (s.heap.objs.size + 4)))) { s with heap := zipTL s.heap m1 m2 }) :=
  .of_wp fun prog w A R s h => by
    obtain ⟨hp, g, d, tk, os⟩ := s
    obtain ⟨e1, e2, h⟩ := h
    have sz := sub_zip
    have L1 : Heap.IsTuple (Shared.heap ⟨hp, g, d, tk, os⟩) m1 us := e1
    have L2 : Heap.IsList (Shared.heap ⟨hp.push (itT m1), g, d, tk, os⟩) m2 vs := Heap.IsList.push e2 _
    wp_walk using wpAny_pyIter_tuple L1, wpAny_pyIter_list L2
    refine ⟨_, rfl, ?_⟩
    have e5 : hp.objs.size + 4 = ((((hp.push (itT m1)).push (itL m2)).push { cls := .type "tuple", data := .seq #[.ref hp.objs.size, .ref (hp.push (itT m1)).objs.size] }).push { cls := .type "tuple", data := .seq #[.none, .none] }).objs.size := by simp only [Heap.size_push]
    rw [e5] at h
    exact h
theorem call_zipTL {m1 m2 : Addr} {us vs : Array Value} {Q : Value → Shared → Prop} (e1 : s.heap.IsTuple m1 us) (e2 : s.heap.IsList m2 vs)
    (h : ∀ h', IsZip h' (s.heap.objs.size + 4) (s.heap.objs.size + 2) (s.heap.objs.size + 3) .none → IsPair h' (s.heap.objs.size + 2) (.ref s.heap.objs.size) (.ref (s.heap.objs.size + 1)) →
      IsPair h' (s.heap.objs.size + 3) .none .none → h'.IsTupleIter s.heap.objs.size m1 0 → h'.IsListIter (s.heap.objs.size + 1) m2 0 →
      (∀ c o, s.heap.get? c = some o → h'.get? c = some o) → Q (.ref (s.heap.objs.size + 4)) { s with heap := h' }) :
    wpAny (model prog w) A (call (.type "zip") [.ref m1, .ref m2]) Q E s := by
  refine callType_new F.called_zip (by decide) (F.typeCall_zip_2 _ _) (F.newCall_zip_2 _ _) (fun ob => F.args_object_init_3 ob _ _) F.entry_zip_new (meets_newTL m1 m2 us vs) ⟨e1, e2, ?_⟩
  have pk : ∀ {h : Heap} {c : Addr} {o : Obj} (u : Obj), h.get? c = some o → (h.push u).get? c = some o := fun u q => Heap.get?_push_of_some _ q
  have p1 : (zipTL s.heap m1 m2).get? s.heap.objs.size = some (itT m1) := pk _ (pk _ (pk _ (pk _ (Heap.get?_push_size _ rfl))))
  have p2 : (zipTL s.heap m1 m2).get? (s.heap.push (itT m1)).objs.size = some (itL m2) := pk _ (pk _ (pk _ (Heap.get?_push_size _ rfl)))
  have p4 : (zipTL s.heap m1 m2).get? ((s.heap.push (itT m1)).push (itL m2)).objs.size = some _ := pk _ (pk _ (Heap.get?_push_size _ rfl))
  have p5 : (zipTL s.heap m1 m2).get? (((s.heap.push (itT m1)).push (itL m2)).push { cls := .type "tuple", data := .seq #[.ref s.heap.objs.size, .ref (s.heap.push (itT m1)).objs.size] }).objs.size = some _ := pk _ (Heap.get?_push_size _ rfl)
  have p6 : (zipTL s.heap m1 m2).get? ((((s.heap.push (itT m1)).push (itL m2)).push { cls := .type "tuple", data := .seq #[.ref s.heap.objs.size, .ref (s.heap.push (itT m1)).objs.size] }).push { cls := .type "tuple", data := .seq #[.none, .none] }).objs.size = some _ := Heap.get?_push_size _ rfl
  have kp : ∀ c o, s.heap.get? c = some o → (zipTL s.heap m1 m2).get? c = some o := fun c o q => pk _ (pk _ (pk _ (pk _ (pk _ q))))
  generalize zipTL s.heap m1 m2 = h' at kp p1 p2 p4 p5 p6 ⊢
  simp only [Heap.size_push, Nat.add_assoc, Nat.reduceAdd] at p2 p4 p5 p6
  show _ ∧ _
  exact ⟨⟨_, p6, rfl⟩, h _ p6 p4 p5 ⟨_, p1, rfl, rfl⟩ ⟨_, p2, rfl, rfl⟩ kp⟩
end
def okZT (K : PySem.W.Frag) (a b : Addr) (n : Nat) (H : Hp) : Prop := ∃ xs ys, SqT K H a xs ∧ SqL K H b ys ∧ min xs.length ys.length = n
def ItzT (K : PySem.W.Frag) (a b : Addr) (n : Nat) : It := Itp n (okZT K a b n) fun i H u v => (∀ xs, SqT K H a xs → xs[i]? = some u) ∧ ∀ ys, SqL K H b ys → ys[i]? = some v
def tnZT (Z Ti To j1 j2 m1 m2 : Addr) (i : Nat) (h : Heap) : Prop := IsZip h Z Ti To .none ∧ IsPair h Ti (.ref j1) (.ref j2) ∧ (∃ a b, IsPair h To a b) ∧ h.IsTupleIter j1 m1 i ∧ h.IsListIter j2 m2 i
theorem turn_zipT {P : Program} {w : World} {K : PySem.W.Frag} {es : List Expr} {k : Nat} {pos : Pos} {Z Ti To j1 j2 m1 m2 : Addr} {n : Nat} (D : Apart2 Z Ti To j1 j2 m1 m2) :
    Turn P w K (.Tuple es k pos) (ItzT K m1 m2 n) [Z, Ti, To, j1, j2] Z (tnZT Z Ti To j1 j2 m1 m2) where
  mem := by simp
  obj := fun i h st b hb => by
    obtain ⟨h1, h2, ⟨x, y, h3⟩, ⟨o4, h4, _, d4⟩, ⟨o5, h5, _, d5⟩⟩ := st
    simp only [List.mem_cons, List.not_mem_nil, or_false] at hb
    rcases hb with rfl | rfl | rfl | rfl | rfl
    · exact ⟨_, h1, fun v q => nomatch q⟩
    · exact ⟨_, h2, fun v q => nomatch q⟩
    · exact ⟨_, h3, fun v q => nomatch q⟩
    · exact ⟨_, h4, fun v q => by rw [d4] at q; cases q⟩
    · exact ⟨_, h5, fun v q => by rw [d5] at q; cases q⟩
  keep := fun i h h' st kk => by
    obtain ⟨h1, h2, ⟨x, y, h3⟩, ⟨o4, h4, r4⟩, h5⟩ := st
    exact ⟨kk _ (by simp) _ h1, kk _ (by simp) _ h2, ⟨x, y, kk _ (by simp) _ h3⟩, ⟨o4, kk _ (by simp) o4 h4, r4⟩, h5.at fun o e => kk _ (by simp) o e⟩
  item := by
    intro X hP hw hK hc i pins s σ H E I hf st hg
    subst hP hw hK
    obtain ⟨hi, xs, ys, ha, hb, hn⟩ := hg
    obtain ⟨us, ru, pu, _⟩ := I.tuple ha
    obtain ⟨vs, rv, pv, _⟩ := I.list hb
    have lu := ru.length
    have lv := rv.length
    obtain ⟨h1, h2, ⟨a, b, h3⟩, h4, h5⟩ := st
    have gx : xs[i]? = some (xs[i]'(by omega)) := List.getElem?_eq_getElem (by omega)
    have gy : ys[i]? = some (ys[i]'(by omega)) := List.getElem?_eq_getElem (by omega)
    obtain ⟨x, q1, rx⟩ := ru.get gx
    obtain ⟨y, q2, ry⟩ := rv.get gy
    have nn := D.nd
    simp only [List.nodup_cons, List.mem_cons, List.not_mem_nil, or_false, not_or, not_false_eq_true, List.nodup_nil, and_true] at nn
    have ty : s.TypeIs (.ref Z) "zip" := ⟨_, h1, rfl⟩
    unfold pyNext
    refine wpAny_bind (wpAny_attempt (wpAny_callSpecial?_slot (name := Str.ofString "__next__") ty F.slot_zip_next (wpAny_call_entry F.slot_zip_next ty F.entry_zip_next ?_ (F.args_zip_next_1 _))))
    refine next_duo D h1 h2 h3 h4 h5 pu pv.isList (x := x) (y := y) (by simpa using q1) (by simpa using q2) fun h' a1 a2 a3 a4 a6 kk => wpAny_pure ?_
    refine ⟨.ref s.heap.objs.size, rfl, wpAny_letOwnedTupleGo_zip a1 fun h2' zz2 sb => ?_⟩
    have zlt : Z < s.heap.objs.size := Heap.lt_size h1
    have nT : H s.heap.objs.size = none := I.hok.fresh (Nat.le_refl _)
    have K2 : Kept2 Z To j1 j2 s.heap h2' := kk.but (by simp) sb
    have tup2 : IsTup h2' s.heap.objs.size #[x, y] := ⟨_, sb.extBut _ _ (Nat.ne_of_gt zlt) a6, rfl, _, rfl⟩
    have fpw : ∀ b ∈ [Z, To, j1, j2], b ∈ [Z, Ti, To, j1, j2] := fun b hb => by
      simp only [List.mem_cons, List.not_mem_nil, or_false] at hb ⊢
      rcases hb with rfl | rfl | rfl | rfl <;> simp
    have I2 : Inv X pins σ (upd H s.heap.objs.size (.tup [xs[i]'(by omega), ys[i]'(by omega)])) { s with heap := h2', toks := s.toks } :=
      I.turnedLaid (fun b u hb e => K2 b u hb e) (fun b hb => hf b (fpw b hb)) (Nat.le_refl _) ⟨show 2 ≤ sizeLine by decide, [x, y], .cons rx (.cons ry .nil), tup2⟩
    refine ⟨.ref s.heap.objs.size, _, I2, rfl, ⟨s.heap.objs.size, _, _, nT, rfl, rfl, fun ws hz => by rw [I.tuple_inj hz ha]; exact gx, fun ws hz => by rw [I.list_inj hz hb]; exact gy⟩, ?_, fun b hb => ?_⟩
    · refine ⟨zz2, K2 _ _ ?_ h2, ⟨x, y, sb.extBut _ _ (Ne.symm nn.1.2.1) a2⟩, tit_ext a3 sb.extBut (Ne.symm nn.1.2.2.1), a4.extBut sb.extBut (Ne.symm nn.1.2.2.2)⟩
      simp only [List.mem_cons, List.not_mem_nil, or_false, not_or]
      exact ⟨Ne.symm nn.1.1, nn.2.1.1, nn.2.1.2.1, nn.2.1.2.2⟩
    · have lt : b < s.heap.objs.size := by
        obtain ⟨o4, h4, _⟩ := h4
        obtain ⟨o5, h5, _⟩ := h5
        simp only [List.mem_cons, List.not_mem_nil, or_false] at hb
        rcases hb with rfl | rfl | rfl | rfl | rfl
        · exact Heap.lt_size h1
        · exact Heap.lt_size h2
        · exact Heap.lt_size h3
        · exact Heap.lt_size h4
        · exact Heap.lt_size h5
      rw [upd_ne (Nat.ne_of_lt lt)]
      exact (hf b hb).1
  done := by
    intro X hP hw hK hc i pins s σ H E I hf st hg
    subst hP hw hK
    obtain ⟨hi, xs, ys, ha, hb, hn⟩ := hg
    obtain ⟨us, ru, pu, _⟩ := I.tuple ha
    obtain ⟨vs, rv, pv, _⟩ := I.list hb
    have lu := ru.length
    have lv := rv.length
    obtain ⟨h1, h2, ⟨a, b, h3⟩, h4, h5⟩ := st
    have fpw : ∀ b ∈ [Z, To, j1, j2], b ∈ [Z, Ti, To, j1, j2] := fun b hb => by
      simp only [List.mem_cons, List.not_mem_nil, or_false] at hb ⊢
      rcases hb with rfl | rfl | rfl | rfl <;> simp
    have hend : us.toArray[i]? = none ∨ vs.toArray[i]? = none := by
      by_cases c1 : us.length ≤ i
      · exact .inl (by simpa using c1)
      · exact .inr (by
          have : vs.length ≤ i := by omega
          simpa using this)
    have ty : s.TypeIs (.ref Z) "zip" := ⟨_, h1, rfl⟩
    unfold pyNext
    refine wpAny_bind (wpAny_attempt (wpAny_callSpecial?_slot (name := Str.ofString "__next__") ty F.slot_zip_next (wpAny_call_entry F.slot_zip_next ty F.entry_zip_next ?_ (F.args_zip_next_1 _))))
    refine end_duo (I.ok.hd hc) D h1 h2 h3 h4 h5 pu pv.isList hend fun h' e kk ⟨o, ho, hcl⟩ => ?_
    exact wpAny_bind (wpAny_isInstance (T := "StopIteration") (b := true) ⟨o, ho, hcl⟩ isSubtype_stop (wpAny_pure ⟨rfl, I.turnedL (t' := s.toks) (fun b u hb e => kk b u hb e) fun b hb => hf b (fpw b hb)⟩))
  self := fun A i s Q E st h => wpAny_pyIter_zip st.1 h
def iZipT (K : PySem.W.Frag) (ta tb : TE) : TI := fun σ H R => ta σ H fun x H1 => tb σ H1 fun y H2 => ∃ a b xs ys, x = .ref a ∧ y = .ref b ∧ SqT K H2 a xs ∧ SqL K H2 b ys ∧ R (ItzT K a b (min xs.length ys.length)) H2
theorem apart2 {I m1 m2 : Nat} (h1 : m1 < I) (h2 : m2 < I) : Apart2 (I + 4) (I + 2) (I + 3) I (I + 1) m1 m2 := by
  refine ⟨?_, fun m hm => ?_⟩
  · simp only [List.nodup_cons, List.mem_cons, List.not_mem_nil, or_false, not_or, not_false_eq_true, List.nodup_nil, and_true]
    refine ⟨⟨?_, ?_, ?_, ?_⟩, ⟨?_, ?_, ?_⟩, ⟨?_, ?_⟩, ?_⟩ <;> (intro (z : (_ : Nat) = _); omega)
  · simp only [List.mem_cons, List.not_mem_nil, or_false, not_or] at hm ⊢
    rcases hm with rfl | rfl <;> refine ⟨?_, ?_, ?_, ?_⟩ <;> (intro (z : (_ : Nat) = _); omega)
section
variable {X : Cx} {es : List Expr} {k : Nat} {tpos : Pos}
theorem pi_zipT {l m : Expr} {tl tm : TE} {p pos : Pos} (hg : Gl X "zip") (hm : X.mg "zip" = none) (hl : PE X l tl) (hq : PE X m tm) (hs : starEach [l, m] X.env = [(false, eval l X.env), (false, eval m X.env)] := by rfl) (hs2 : starEach [m] X.env = [(false, eval m X.env)] := by rfl) :
    PI X (.Tuple es k tpos) (.Call (.Name "zip" p) [l, m] [] pos) (iZipT X.K tl tm) := by
  intro pins s σ H R I h
  refine Call_ (ld_blt I hg hm PyProof.Rows.boot_zip (PyProof.Rows.callWith_type1 ?_ (by rw [hs, hs2]) (by rw [hs2]; rfl)))
  refine thn ((pa_cons hl (pa_cons hq pa_nil hs2) (by rw [hs, hs2])) pos pins s σ H (fun vs H2 => ∃ (x y : V), vs = [x, y] ∧ ∃ a b xs ys, x = .ref a ∧ y = .ref b ∧ SqT X.K H2 a xs ∧ SqL X.K H2 b ys ∧ R (ItzT X.K a b (min xs.length ys.length)) H2) I ?_) fun us s1 ⟨vs, H1, I1, r, x, y, e, a, b, xs, ys, ea, eb, ha, hb, q⟩ => ?_
  · show tl σ H fun x H1 => tm σ H1 fun y H2 => ∃ x' y', [x, y] = [x', y'] ∧ _
    have e : (fun (x : V) (H1 : Hp) => tm σ H1 fun y H2 => ∃ x' y', [x, y] = [x', y'] ∧ ∃ a b xs ys, x' = V.ref a ∧ y' = .ref b ∧ SqT X.K H2 a xs ∧ SqL X.K H2 b ys ∧ R (ItzT X.K a b (min xs.length ys.length)) H2) =
        fun (x : V) (H1 : Hp) => tm σ H1 fun y H2 => ∃ a b xs ys, x = V.ref a ∧ y = .ref b ∧ SqT X.K H2 a xs ∧ SqL X.K H2 b ys ∧ R (ItzT X.K a b (min xs.length ys.length)) H2 := by
      funext x H1
      congr 1
      funext y H2
      refine propext ⟨fun ⟨x', y', e, q⟩ => ?_, fun q => ⟨x, y, rfl, q⟩⟩
      cases e
      exact q
    rw [e]
    exact h
  subst e ea eb
  obtain ⟨u, v, rfl, r1, r2⟩ := Vals.two r
  cases r1
  cases r2
  obtain ⟨us, ru, pu, _⟩ := I1.tuple ha
  obtain ⟨vs, rv, pv, _⟩ := I1.list hb
  have la : a < s1.heap.objs.size := by obtain ⟨o, e, _⟩ := pu; exact Heap.lt_size e
  have lb : b < s1.heap.objs.size := by obtain ⟨o, e, _⟩ := pv.isList; exact Heap.lt_size e
  refine call_zipTL pu pv.isList fun h' hz hTI hTO hi1 hi2 hk => ?_
  refine wpAny_pyIter_zip hz ?_
  have I2 : Inv X pins σ H1 { s1 with heap := h' } := I1.kept (t' := s1.toks) hk
  refine ⟨_, _, _, _, H1, rfl, I2, turn_zipT (apart2 la lb), ⟨hz, hTI, ⟨_, _, hTO⟩, hi1, hi2⟩, fun c hc => ?_, q⟩
  have hc' : s1.heap.objs.size ≤ c := by
    simp only [List.mem_cons, List.not_mem_nil, or_false] at hc
    rcases hc with rfl | rfl | rfl | rfl | rfl <;> first | exact Nat.le_refl _ | exact Nat.le_add_right _ _
  exact I1.fpOk hc' (I1.hok.fresh hc')
end
theorem iZipT_ap {K : PySem.W.Frag} {ta tb : TE} {σ : St} {H : Hp} {R : It → Hp → Prop} : iZipT K ta tb σ H R = ta σ H fun x H1 => tb σ H1 fun y H2 => ∃ a b xs ys, x = .ref a ∧ y = .ref b ∧ SqT K H2 a xs ∧ SqL K H2 b ys ∧ R (ItzT K a b (min xs.length ys.length)) H2 := rfl
theorem forW_zipT {K : PySem.W.Frag} {a b : Addr} {xs ys : List V} {g : TG} {tb : TS} {D : Ends} {σ : St} {H : Hp} (Pv : Nat → St → Hp → Prop) (h0 : Pv 0 σ H) (hl : ∀ i σ H, Pv i σ H → SqT K H a xs ∧ SqL K H b ys)
    (hs : ∀ i u v T σ H, xs[i]? = some u → ys[i]? = some v → H T = none → Pv i σ H → g (.ref T) σ (upd H T (.tup [u, v])) fun σ2 H2 => tb { D with nx := Pv (i + 1), ct := Pv (i + 1), bk := D.nx } σ2 H2)
    (hd : ∀ σ H, Pv (min xs.length ys.length) σ H → D.nx σ H) : ForW (ItzT K a b (min xs.length ys.length)) g tb D σ H := by
  refine ⟨fun i m σ H => m = min xs.length ys.length - i ∧ i ≤ min xs.length ys.length ∧ Pv i σ H, ⟨_, rfl, Nat.zero_le _, h0⟩, ?_⟩
  rintro i m σ1 H1 ⟨rfl, hi, p⟩
  obtain ⟨qa, qb⟩ := hl i σ1 H1 p
  by_cases hlt : i < min xs.length ys.length
  · refine .inr ⟨⟨hlt, xs, ys, qa, qb, rfl⟩, Pv (i + 1), fun σ' H' p' => ⟨min xs.length ys.length - (i + 1), by omega, rfl, hlt, p'⟩, fun x H' y => ?_⟩
    obtain ⟨T, u, v, nT, rfl, rfl, f1, f2⟩ := y
    exact hs i u v T σ1 H1 (f1 xs qa) (f2 ys qb) nT p
  · have e : i = min xs.length ys.length := by omega
    refine .inl ⟨⟨e, xs, ys, qa, qb, rfl⟩, hd σ1 H1 ?_⟩
    rw [← e]
    exact p
end L2
namespace L2
open PySem PySem.Spec PySem.Calls PyProof.Rows PySem.W SM
section
variable {X : Cx} {k : Nat} {C : Addr} {ps : List Str} {sp : Sp} {m : Str} {pos apos : Pos} {e o : Expr} {es : List Expr} {ta : TE} {t : TA}
theorem pe_mk0 {x : Str} {p : Pos} (h : HasM X.prog X.w X.K X.mg X.base k C "__init__" ps sp) (mk : PySem.W.makesIn X.K C = true) (kc : PySem.W.keepIn X.K (.ref C) = true) (hr : Room (k + 1) X.A) (hg : Gl X x) (hm : X.mg x = some (.ref C)) (hdb : (x == ("__debug__" : Str)) = false := by decide) :
    PE X (.Call (.Name x p) [] [] pos) (tMake C sp [] E0 tNil) := by
  obtain ⟨f, fd, F, hb, hM⟩ := h
  exact pe_make0 ⟨mk, hM.at_, hM.fn, kc⟩ F hr hg hm (.all hb) .nil pass0 hdb
end
end L2
set_option maxHeartbeats 4000000
open PySem L2 SM
local macro_rules | `(tactic| walk_at "wp") => `(tactic| try simp only [tSeq_ap, tIfS_ap, tAsg_ap, gName_ap, tRet_ap, tRetN_ap, tNext_ap, tBreak_ap, tCont_ap, tDrop_ap, tC_ap, tVar_0, tVar_s, tOp_ap, tUn_ap, rI0_ap, rI_ap, rU_ap, rEq_int, rNe_int, tTest_ap, tB_ap, ex_bl, ex_ref, ex_int, tAnd_ap, tOr_ap, tNot_ap, tAndV_ap, tOrV_ap, tNotV_ap, tIf_ap, tNil_ap, tCons_ap, tTup_ap, tLst_ap, tCall_ap, tCB_ap, tChain_ap, tPar_ap, ex_two, tAug_ap, ipI_ap, tSl_ap, tNoPart_ap, tPart_ap, tBM_ap, tBM0_ap, tTrue_ap, gSub_ap, gCons_ap, gNil_ap, tFor_ap, iRng1_ap, iRng2_ap, iRngA_ap, iRng3_ap, iRngN_ap, iRevR_ap, tRng_ap, iList_ap, iTup_ap, iRev_ap, iZip_ap, iZip3_ap, iEnum_ap, iEnumT_ap, iStr_ap, tFmt_ap, jNil_ap, jCons_ap, tJoin_ap, tFld_ap, sFld_ap, sFldAug_ap, tMeth_ap, tMake_ap, tListRev_ap, tMinD_ap, tMaxD_ap, tComp_ap, ite_and, L2.start, cxOf_K, cxComp_K, cxCompX_K, List.map_cons, List.map_nil, List.length_cons, List.length_nil, List.replicate, List.cons_append, List.nil_append, List.append_nil, List.set_cons_zero, List.set_cons_succ, decide_eq_true_eq, Bool.not_eq_true', decide_eq_false_iff_not, Bool.not_eq_eq_eq_not, Bool.not_true, Bool.not_false, sizeLine_eq, oV, reduceCtorEq, isI_ii, isI_ib, isI_ni, isI_bb, Nat.reduceAdd, Nat.reduceSub, Nat.reduceLeDiff, Nat.zero_add, true_and, and_true, forall_const, Bool.false_eq_true, if_true, if_false, false_implies, true_implies, not_false_eq_true, not_true_eq_false, implies_true])
seal L2.PSs L2.PS L2.PE L2.PT L2.PA L2.PI L2.PG L2.PTs L2.PW L2.OpR
namespace SMk92
open PySem L2 SM
def top (i : Nat) : Stmt := PySem.Challenge.pw_shiftmeet_k92_whole_grids_of_any_size.main.body.getD i (.Pass ⟨0, 0, 0, 0⟩)
abbrev s_divisor : Stmt := top 10
abbrev s_least_round : Stmt := top 11
abbrev s_grid_plan : Stmt := top 16
abbrev s_grid_paper : Stmt := top 17
abbrev s_first_hit : Stmt := top 19
abbrev s_climbed : Stmt := top 20
abbrev s_divided_up : Stmt := top 21
abbrev s_awake : Stmt := top 25
abbrev s_shifted : Stmt := top 27
abbrev s_together : Stmt := top 30
abbrev s_next_together : Stmt := top 31
abbrev s_next_begin : Stmt := top 32
abbrev s_lies_in : Stmt := top 35
abbrev s_right_for : Stmt := top 36
abbrev s_part_of_part : Stmt := top 37
abbrev s_lets_by : Stmt := top 38
abbrev s_paper_names : Stmt := top 39
abbrev s_shifts_of_two : Stmt := top 48
abbrev s_shifts : Stmt := top 49
abbrev s_pair_of : Stmt := top 50
abbrev s_lets_meet : Stmt := top 55
abbrev s_paper_wait : Stmt := top 56
abbrev s_pair_round : Stmt := top 57
abbrev s_read_number : Stmt := top 67
abbrev s_is_figures : Stmt := top 68
abbrev s_shown_paper : Stmt := top 69
abbrev s_read_paper : Stmt := top 70
abbrev s_words_of : Stmt := top 79
abbrev s_fits : Stmt := top 80
abbrev s_is_name : Stmt := top 81
abbrev s_is_turn : Stmt := top 82
abbrev s_told_plan : Stmt := top 83
abbrev s_turn_answer : Stmt := top 84
abbrev s_check_answer : Stmt := top 87
abbrev s_law_cell_at : Stmt := top 89
abbrev s_law_size : Stmt := top 90
abbrev s_law_great : Stmt := top 91
abbrev s_law_divisor : Stmt := top 92
abbrev s_law_awake : Stmt := top 93
abbrev s_law_read : Stmt := top 94
abbrev s_law_met : Stmt := top 95
abbrev s_law : Stmt := top 96
abbrev s_PaperReader___init__ : Stmt := inClass (top 71) 0
abbrev s_PaperReader_next_paper : Stmt := inClass (top 71) 1
abbrev s_PaperReader_next_number : Stmt := inClass (top 71) 3
abbrev s_PaperReader_passes : Stmt := inClass (top 71) 5
abbrev s_Desk___init__ : Stmt := inClass (top 78) 0
abbrev s_Desk_told : Stmt := inClass (top 78) 1
abbrev s_Desk_plan_by : Stmt := inClass (top 78) 2
theorem sc_divisor : FnScope ["one", "other", "rest"] ["one", "other"] (defScope s_divisor) := ⟨rfl, rfl, rfl, by decide +kernel, rfl, by decide +kernel, by decide +kernel⟩
theorem sc_least_round : FnScope ["numbers", "whole", "number"] ["numbers"] (defScope s_least_round) := ⟨rfl, rfl, rfl, by decide +kernel, rfl, by decide +kernel, by decide +kernel⟩
theorem sc_grid_plan : FnScope ["number"] ["number"] (defScope s_grid_plan) := ⟨rfl, rfl, rfl, by decide +kernel, rfl, by decide +kernel, by decide +kernel⟩
theorem sc_grid_paper : FnScope ["one", "other"] ["one", "other"] (defScope s_grid_paper) := ⟨rfl, rfl, rfl, by decide +kernel, rfl, by decide +kernel, by decide +kernel⟩
theorem sc_first_hit : FnScope ["start", "step", "whole", "many", "low", "levels", "high", "hit", "rest"] ["start", "step", "whole", "many"] (defScope s_first_hit) := ⟨rfl, rfl, rfl, by decide +kernel, rfl, by decide +kernel, by decide +kernel⟩
theorem sc_climbed : FnScope ["levels", "hit", "whole", "step", "low"] ["levels", "hit"] (defScope s_climbed) := ⟨rfl, rfl, rfl, by decide +kernel, rfl, by decide +kernel, by decide +kernel⟩
theorem sc_divided_up : FnScope ["number", "by"] ["number", "by"] (defScope s_divided_up) := ⟨rfl, rfl, rfl, by decide +kernel, rfl, by decide +kernel, by decide +kernel⟩
theorem sc_awake : FnScope ["plan", "turn", "period", "first", "length"] ["plan", "turn"] (defScope s_awake) := ⟨rfl, rfl, rfl, by decide +kernel, rfl, by decide +kernel, by decide +kernel⟩
theorem sc_shifted : FnScope ["plan", "by"] ["plan", "by"] (defScope s_shifted) := ⟨rfl, rfl, rfl, by decide +kernel, rfl, by decide +kernel, by decide +kernel⟩
theorem sc_together : FnScope ["one", "other", "shift", "turn"] ["one", "other", "shift", "turn"] (defScope s_together) := ⟨rfl, rfl, rfl, by decide +kernel, rfl, by decide +kernel, by decide +kernel⟩
theorem sc_next_together : FnScope ["one", "other", "shift", "turn", "turns", "waking", "beside"] ["one", "other", "shift", "turn"] (defScope s_next_together) := ⟨rfl, rfl, rfl, by decide +kernel, rfl, by decide +kernel, by decide +kernel⟩
theorem sc_next_begin : FnScope ["waking", "beside", "turn", "begin", "rounds"] ["waking", "beside", "turn"] (defScope s_next_begin) := ⟨rfl, rfl, rfl, by decide +kernel, rfl, by decide +kernel, by decide +kernel⟩
theorem sc_lies_in : FnScope ["waking", "part", "period", "length", "common"] ["waking", "part"] (defScope s_lies_in) := ⟨rfl, rfl, rfl, by decide +kernel, rfl, by decide +kernel, by decide +kernel⟩
theorem sc_right_for : FnScope ["plan", "part", "paper", "by", "number", "below"] ["plan", "part", "paper"] (defScope s_right_for) := ⟨rfl, rfl, rfl, by decide +kernel, rfl, by decide +kernel, by decide +kernel⟩
theorem sc_part_of_part : FnScope ["part", "by", "number"] ["part", "by", "number"] (defScope s_part_of_part) := ⟨rfl, rfl, rfl, by decide +kernel, rfl, by decide +kernel, by decide +kernel⟩
theorem sc_lets_by : FnScope ["plan", "paper"] ["plan", "paper"] (defScope s_lets_by) := ⟨rfl, rfl, rfl, by decide +kernel, rfl, by decide +kernel, by decide +kernel⟩
theorem sc_paper_names : FnScope ["paper", "names", "below"] ["paper"] (defScope s_paper_names) := ⟨rfl, rfl, rfl, by decide +kernel, rfl, by decide +kernel, by decide +kernel⟩
theorem sc_shifts_of_two : FnScope ["one", "other", "common", "first"] ["one", "other"] (defScope s_shifts_of_two) := ⟨rfl, rfl, rfl, by decide +kernel, rfl, by decide +kernel, by decide +kernel⟩
theorem sc_shifts : FnScope ["one", "other", "plan", "waking"] ["one", "other"] (defScope s_shifts) := ⟨rfl, rfl, rfl, by decide +kernel, rfl, by decide +kernel, by decide +kernel⟩
theorem sc_pair_of : FnScope ["one", "other", "k"] ["one", "other", "k"] (defScope s_pair_of) := ⟨rfl, rfl, rfl, by decide +kernel, rfl, by decide +kernel, by decide +kernel⟩
theorem sc_lets_meet : FnScope ["one", "other", "paper"] ["one", "other", "paper"] (defScope s_lets_meet) := ⟨rfl, rfl, rfl, by decide +kernel, rfl, by decide +kernel, by decide +kernel⟩
theorem sc_paper_wait : FnScope ["one", "other", "paper"] ["one", "other", "paper"] (defScope s_paper_wait) := ⟨rfl, rfl, rfl, by decide +kernel, rfl, by decide +kernel, by decide +kernel⟩
theorem sc_pair_round : FnScope ["one", "other", "k", "pair"] ["one", "other", "k"] (defScope s_pair_round) := ⟨rfl, rfl, rfl, by decide +kernel, rfl, by decide +kernel, by decide +kernel⟩
theorem sc_read_number : FnScope ["text"] ["text"] (defScope s_read_number) := ⟨rfl, rfl, rfl, by decide +kernel, rfl, by decide +kernel, by decide +kernel⟩
theorem sc_is_figures : FnScope ["text", "most"] ["text", "most"] (defScope s_is_figures) := ⟨rfl, rfl, rfl, by decide +kernel, rfl, by decide +kernel, by decide +kernel⟩
theorem sc_shown_paper : FnScope ["paper", "number", "papers"] ["paper"] (defScope s_shown_paper) := ⟨rfl, rfl, rfl, by decide +kernel, rfl, by decide +kernel, by decide +kernel⟩
theorem sc_read_paper : FnScope ["text", "reader", "paper"] ["text"] (defScope s_read_paper) := ⟨rfl, rfl, rfl, by decide +kernel, rfl, by decide +kernel, by decide +kernel⟩
theorem sc_words_of : FnScope ["row", "form", "words", "place", "word"] ["row"] (defScope s_words_of) := ⟨rfl, rfl, rfl, by decide +kernel, rfl, by decide +kernel, by decide +kernel⟩
theorem sc_fits : FnScope ["place", "word"] ["place", "word"] (defScope s_fits) := ⟨rfl, rfl, rfl, by decide +kernel, rfl, by decide +kernel, by decide +kernel⟩
theorem sc_is_name : FnScope ["word"] ["word"] (defScope s_is_name) := ⟨rfl, rfl, rfl, by decide +kernel, rfl, by decide +kernel, by decide +kernel⟩
theorem sc_is_turn : FnScope ["word"] ["word"] (defScope s_is_turn) := ⟨rfl, rfl, rfl, by decide +kernel, rfl, by decide +kernel, by decide +kernel⟩
theorem sc_told_plan : FnScope ["words"] ["words"] (defScope s_told_plan) := ⟨rfl, rfl, rfl, by decide +kernel, rfl, by decide +kernel, by decide +kernel⟩
theorem sc_turn_answer : FnScope ["turn"] ["turn"] (defScope s_turn_answer) := ⟨rfl, rfl, rfl, by decide +kernel, rfl, by decide +kernel, by decide +kernel⟩
theorem sc_check_answer : FnScope ["one", "other", "paper", "wait"] ["one", "other", "paper"] (defScope s_check_answer) := ⟨rfl, rfl, rfl, by decide +kernel, rfl, by decide +kernel, by decide +kernel⟩
theorem sc_law_cell_at : FnScope ["script", "k"] ["script", "k"] (defScope s_law_cell_at) := ⟨rfl, rfl, rfl, by decide +kernel, rfl, by decide +kernel, by decide +kernel⟩
theorem sc_law_size : FnScope ["cell"] ["cell"] (defScope s_law_size) := ⟨rfl, rfl, rfl, by decide +kernel, rfl, by decide +kernel, by decide +kernel⟩
theorem sc_law_great : FnScope ["cell", "number"] ["cell"] (defScope s_law_great) := ⟨rfl, rfl, rfl, by decide +kernel, rfl, by decide +kernel, by decide +kernel⟩
theorem sc_law_divisor : FnScope ["one", "other"] ["one", "other"] (defScope s_law_divisor) := ⟨rfl, rfl, rfl, by decide +kernel, rfl, by decide +kernel, by decide +kernel⟩
theorem sc_law_awake : FnScope ["size", "turn"] ["size", "turn"] (defScope s_law_awake) := ⟨rfl, rfl, rfl, by decide +kernel, rfl, by decide +kernel, by decide +kernel⟩
theorem sc_law_read : FnScope ["word", "below", "figures", "sign"] ["word"] (defScope s_law_read) := ⟨rfl, rfl, rfl, by decide +kernel, rfl, by decide +kernel, by decide +kernel⟩
theorem sc_law_met : FnScope ["desk", "sizes", "shift", "turn", "wait", "between", "told", "found", "early", "other"] ["desk", "sizes", "shift", "turn", "wait", "between"] (defScope s_law_met) := ⟨rfl, rfl, rfl, by decide +kernel, rfl, by decide +kernel, by decide +kernel⟩
theorem sc_law : FnScope ["script", "sizes", "desk", "square", "wait", "cells", "k", "shift", "turn", "answer", "within"] ["script"] (defScope s_law) := ⟨rfl, rfl, rfl, by decide +kernel, rfl, by decide +kernel, by decide +kernel⟩
theorem sc_PaperReader___init__ : FnScope ["self", "text"] ["self", "text"] (defScope s_PaperReader___init__) := ⟨rfl, rfl, rfl, by decide +kernel, rfl, by decide +kernel, by decide +kernel⟩
theorem sc_PaperReader_next_paper : FnScope ["self", "above", "by"] ["self", "above"] (defScope s_PaperReader_next_paper) := ⟨rfl, rfl, rfl, by decide +kernel, rfl, by decide +kernel, by decide +kernel⟩
theorem sc_PaperReader_next_number : FnScope ["self", "begin"] ["self"] (defScope s_PaperReader_next_number) := ⟨rfl, rfl, rfl, by decide +kernel, rfl, by decide +kernel, by decide +kernel⟩
theorem sc_PaperReader_passes : FnScope ["self", "signs"] ["self", "signs"] (defScope s_PaperReader_passes) := ⟨rfl, rfl, rfl, by decide +kernel, rfl, by decide +kernel, by decide +kernel⟩
theorem sc_Desk___init__ : FnScope ["self", "text"] ["self"] (defScope s_Desk___init__) := ⟨rfl, rfl, rfl, by decide +kernel, rfl, by decide +kernel, by decide +kernel⟩
theorem sc_Desk_told : FnScope ["self", "row", "words", "paper", "one", "other"] ["self", "row"] (defScope s_Desk_told) := ⟨rfl, rfl, rfl, by decide +kernel, rfl, by decide +kernel, by decide +kernel⟩
theorem sc_Desk_plan_by : FnScope ["self", "name"] ["self", "name"] (defScope s_Desk_plan_by) := ⟨rfl, rfl, rfl, by decide +kernel, rfl, by decide +kernel, by decide +kernel⟩
section
variable {P : Program} {w : World} {K : PySem.W.Frag} {mg : Str → Option Value} {base : Heap}
def sp_divisor : Sp := fun vs H Q _ => ∃ a b : Int, vs = [.int a, .int b] ∧ 0 ≤ a ∧ 0 ≤ b ∧ Q (.int (gcdI a b)) H
theorem h_divisor (T : TF K mg "divisor" s_divisor) : Has P w K mg base 1 "divisor" ["one", "other"] sp_divisor := by
  refine T.has sc_divisor (fun _ _ _ _ _ _ us hl => match us, hl with | [_, _], _ => rfl) (fun vs H Q E h => ?_) (fun f cdv A outer s H vs Q E hr h => ?_)
  · obtain ⟨a, b, rfl, _⟩ := h
    rfl
  obtain ⟨a, b, rfl, ha, hb, q⟩ := h
  refine ⟨_, (pss_cons (ps_while PassesOwn.never (pt_cmpR op_ne (pv 1) pe_int (nomark _)) (pss_cons (ps_set (i := 2) sc_divisor.nd rfl (Or.inl rfl) (pe_op op_mod (pv 0) (pv 1))) (pss_cons (ps_set (i := 0) sc_divisor.nd rfl (Or.inl rfl) (pv 1)) (pss_one (ps_set (i := 1) sc_divisor.nd rfl (Or.inl rfl) (pv 2)))))) (pss_one (ps_ret (pv 0)))), ?_⟩
  walk_at "wp"
  obtain ⟨W, hW⟩ : ∃ W : Nat → St → Hp → Prop, W = fun m σ H' => ∃ (x y : Int) (r : Option V), σ = [some (.int x), some (.int y), r] ∧ H' = H ∧ 0 ≤ x ∧ 0 ≤ y ∧ gcdI x y = gcdI a b ∧ m = y.toNat := ⟨_, rfl⟩
  refine ⟨W, ⟨b.toNat, by rw [hW]; exact ⟨a, b, none, rfl, rfl, ha, hb, rfl, rfl⟩⟩, fun m σ H' h => ?_⟩
  rw [hW] at h
  obtain ⟨x, y, r, rfl, rfl, hx, hy, e, rfl⟩ := h
  walk_at "wp"
  refine ⟨fun c => ?_, fun c => ?_⟩
  · have m1 := Int.emod_nonneg x c
    have m2 := Int.emod_lt_of_pos x (show 0 < y by omega)
    refine ⟨_, fun _ _ h => h, ?_⟩
    walk_at "wp"
    refine ⟨by omega, (x % y).toNat, by omega, ?_⟩
    rw [hW]
    exact ⟨y, x % y, _, rfl, rfl, hy, m1, by rw [gcdI_step, e], rfl⟩
  · have c' : y = 0 := by omega
    subst c'
    rw [gcdI_zero hx] at e
    rw [e]
    exact q

theorem pow_bits {x : Int} {n k : Nat} (h0 : 0 ≤ x) (h : x ≤ (2 ^ n) ^ k) : x.natAbs < 2 ^ (n * k + 1) := by
  rw [← Int.pow_mul] at h
  have e : ((2 ^ (n * k) : Nat) : Int) = 2 ^ (n * k) := by rw [Int.natCast_pow]; rfl
  rw [← e] at h
  rw [Nat.pow_succ]
  have : 0 < 2 ^ (n * k) := Nat.pow_pos (by decide)
  omega
def sp_least_round (K : PySem.W.Frag) : Sp := fun vs H Q _ => ∃ (L : Addr) (zs : List Int), vs = [.ref L] ∧ SqL K H L (zs.map V.int) ∧ zs.length ≤ 200 ∧ (∀ z ∈ zs, 1 ≤ z ∧ z ≤ 2 ^ 1000) ∧ Q (.int (lcms zs)) H
theorem lcms_mok {zs : List Int} {z : Int} (hl : zs.length ≤ 200) (h : ∀ z ∈ zs, 1 ≤ z ∧ z ≤ 2 ^ 1000) (z0 : 0 ≤ z) (z1 : z ≤ 2 ^ 1000) : IntMulOk (lcms zs) z := by
  have p1 := lcms_pos (xs := zs) fun x hx => (h x hx).1
  have p2 := lcms_le (B := 2 ^ 1000) (by decide) h
  exact mok (1000 * zs.length + 1) 1001 (pow_bits (by omega) p2) (by omega) (by omega)
theorem h_least_round (T : TF K mg "least_round" s_least_round) (G_divisor : Has P w K mg base 1 "divisor" ["one", "other"] sp_divisor) : Has P w K mg base 2 "least_round" ["numbers"] (sp_least_round K) := by
  refine T.has sc_least_round (fun _ _ _ _ _ _ us hl => match us, hl with | [_], _ => rfl) (fun vs H Q E h => ?_) (fun f cdv A outer s H vs Q E hr h => ?_)
  · obtain ⟨a, b, rfl, _⟩ := h
    rfl
  obtain ⟨L, zs, rfl, hS, hl, hz, q⟩ := h
  refine ⟨_, (pss_cons (ps_set (i := 1) sc_least_round.nd rfl (Or.inl rfl) pe_int) (pss_cons (ps_for PassesOwn.never rfl (pi_list (pv 0)) (pg_name (i := 2) sc_least_round.nd rfl (Or.inl rfl)) (pss_one (ps_set (i := 1) sc_least_round.nd rfl (Or.inl rfl) (pe_op op_mulA (pv 1) (pe_op op_fdivA (pv 2) (pe_def (G_divisor.mono (by first | decide | omega)) hr (pa_cons (pv 1) (pa_cons (pv 2) pa_nil)))))))) (pss_one (ps_ret (pv 1))))), ?_⟩
  walk_at "wp"
  refine ⟨⟨_, hS⟩, ?_⟩
  obtain ⟨W, hW⟩ : ∃ W : Nat → St → Hp → Prop, W = fun i σ H' => ∃ o, σ = [some (.ref L), some (.int (lcms (zs.take i))), o] ∧ H' = H := ⟨_, rfl⟩
  refine forW_list (xs := zs.map V.int) W ?_ (fun j σ H2 _ z => ?_) (fun j x σ H2 hx z => ?_) (fun σ H2 z => ?_)
  · rw [hW]
    exact ⟨_, rfl, rfl⟩
  · rw [hW] at z
    obtain ⟨_, _, rfl⟩ := z
    exact hS
  · rw [hW] at z
    obtain ⟨o, rfl, rfl⟩ := z
    rw [List.getElem?_map] at hx
    obtain ⟨x, hy, rfl⟩ := Option.map_eq_some_iff.mp hx
    have hx1 := hz x (List.mem_of_getElem? hy)
    have ht : ∀ z ∈ zs.take j, 1 ≤ z ∧ z ≤ 2 ^ 1000 := fun z hz' => hz z (List.mem_of_mem_take hz')
    have p1 := lcms_pos (xs := zs.take j) fun x hx => (ht x hx).1
    have lt : (zs.take j).length ≤ 200 := by rw [List.length_take]; omega
    have gp := gcdI_pos (a := lcms (zs.take j)) (b := x) (by omega)
    have gl : gcdI (lcms (zs.take j)) x ≤ x := by rw [gcdI_comm]; exact gcdI_le_left _ (by omega)
    walk_at "wp"
    refine ⟨_, _, rfl, by omega, by omega, ?_⟩
    walk_at "wp"
    refine ⟨divA 1001 gp (by omega) (by decide), lcms_mok lt ht (Int.ediv_nonneg (by omega) (by omega)) (Int.le_trans (Int.ediv_le_self _ (by omega)) hx1.2), ?_⟩
    rw [hW]
    refine ⟨some (.int x), ?_, rfl⟩
    rw [List.take_add_one, hy]
    show _ = [_, some (V.int (lcms (zs.take j ++ [x]))), _]
    rw [lcms_snoc]
    rfl
  · rw [hW] at z
    obtain ⟨o, rfl, rfl⟩ := z
    rw [List.length_map, List.take_length]
    walk_at "wp"
    exact q

def sp_sh2 (K : PySem.W.Frag) : Sp := fun vs H Q _ => ∃ (p p2 : Addr) (u v : T3), vs = [.ref p, .ref p2] ∧ SqT K H p [.int u.1, .int u.2.1, .int u.2.2] ∧ SqT K H p2 [.int v.1, .int v.2.1, .int v.2.2] ∧ 1 ≤ u.1 ∧ 1 ≤ v.1 ∧ ∀ (t : Addr) (H' : Hp), Same H H' → H t = none → H' t = some (tupW (sh2 u v)) → Q (.ref t) H'
theorem h_shifts_of_two (T : TF K mg "shifts_of_two" s_shifts_of_two) (m_min : mg "min" = none) (G_divisor : Has P w K mg base 1 "divisor" ["one", "other"] sp_divisor) : Has P w K mg base 2 "shifts_of_two" ["one", "other"] (sp_sh2 K) := by
  refine T.has sc_shifts_of_two (fun _ _ _ _ _ _ us hl => match us, hl with | [_, _], _ => rfl) (fun vs H Q E h => ?_) (fun f cdv A outer s H vs Q E hr h => ?_)
  · obtain ⟨p, p2, u, v, rfl, _⟩ := h
    rfl
  obtain ⟨p, p2, u, v, rfl, hT, hT2, u1, v1, q⟩ := h
  refine ⟨_, (pss_cons (ps_set (i := 2) sc_shifts_of_two.nd rfl (Or.inl rfl) (pe_def (G_divisor.mono (by first | decide | omega)) hr (pa_cons (pe_ix ix_tup (pv 0) pe_int (fun _ _ => rfl)) (pa_cons (pe_ix ix_tup (pv 1) pe_int (fun _ _ => rfl)) pa_nil)))) (pss_cons (ps_set (i := 3) sc_shifts_of_two.nd rfl (Or.inl rfl) (pe_op op_mod (pe_op op_sub (pe_op op_sub (pe_ix ix_tup (pv 0) pe_int (fun _ _ => rfl)) (pe_ix ix_tup (pv 1) pe_int (fun _ _ => rfl))) (pe_op op_sub (pe_ix ix_tup (pv 1) pe_int (fun _ _ => rfl)) pe_int)) (pv 2))) (pss_one (ps_ret (pe_tup (pa_cons (pv 2) (pa_cons (pv 3) (pa_cons (pe_callB (call_min2 rfl) rfl m_min (by decide +kernel) (pa_cons (pv 2) (pa_cons (pe_op op_sub (pe_op op_add (pe_ix ix_tup (pv 0) pe_int (fun _ _ => rfl)) (pe_ix ix_tup (pv 1) pe_int (fun _ _ => rfl))) pe_int) pa_nil))) pa_nil)))))))), ?_⟩
  have gp := gcdI_pos (a := u.1) (b := v.1) (by omega)
  walk_at "wp"
  refine ⟨_, _, _, .int u.1, rfl, rfl, hT, rfl, ?_⟩
  refine ⟨_, _, _, .int v.1, rfl, rfl, hT2, rfl, ?_⟩
  refine ⟨_, _, rfl, by omega, by omega, ?_⟩
  refine ⟨_, _, _, .int u.2.1, rfl, rfl, hT, rfl, ?_⟩
  refine ⟨_, _, _, .int v.2.1, rfl, rfl, hT2, rfl, ?_⟩
  walk_at "wp"
  refine ⟨_, _, _, .int v.2.2, rfl, rfl, hT2, rfl, ?_⟩
  walk_at "wp"
  refine ⟨gp, ?_⟩
  refine ⟨_, _, _, .int u.2.2, rfl, rfl, hT, rfl, ?_⟩
  refine ⟨_, _, _, .int v.2.2, rfl, rfl, hT2, rfl, ?_⟩
  walk_at "wp"
  refine ⟨_, _, rfl, ?_⟩
  walk_at "wp"
  intro t nt
  exact q t _ (same_new nt _) nt upd_same

def shs (ws vs : List T3) : List T3 := ws.flatMap fun u => vs.map (sh2 u)
theorem shs_take {ws vs : List T3} {i : Nat} {u : T3} (e : ws[i]? = some u) : shs (ws.take (i + 1)) vs = shs (ws.take i) vs ++ vs.map (sh2 u) := by
  unfold shs
  rw [List.take_add_one, e, List.flatMap_append]
  simp
theorem shs_len : ∀ ws vs : List T3, (shs ws vs).length = ws.length * vs.length
  | [], vs => by simp [shs]
  | u :: ws, vs => by
    have := shs_len ws vs
    unfold shs at *
    rw [List.flatMap_cons, List.length_append, this, List.length_map, List.length_cons, Nat.succ_mul]
    omega
theorem mem_shs {ws vs : List T3} {x : T3} : x ∈ shs ws vs ↔ ∃ u ∈ ws, ∃ v ∈ vs, sh2 u v = x := by
  unfold shs
  simp only [List.mem_flatMap, List.mem_map]
theorem shs_wk {ws vs : List T3} (hw : ∀ u ∈ ws, Wk u) (hv : ∀ v ∈ vs, Wk v) : ∀ x ∈ shs ws vs, Wk x := fun x hx => by
  obtain ⟨u, hu, v, hv2, rfl⟩ := mem_shs.mp hx
  exact sh2_wk (hw u hu) (hv v hv2)
def sp_shifts (K : PySem.W.Frag) : Sp := fun vs H Q _ => ∃ (a b : Addr) (xs ys : List V) (ws us : List T3), vs = [.ref a, .ref b] ∧ SqL K H a xs ∧ Pl H xs ws ∧ SqL K H b ys ∧ Pl H ys us ∧ (∀ u ∈ ws, 1 ≤ u.1) ∧ (∀ u ∈ us, 1 ≤ u.1) ∧ ws.length ≤ 100 ∧ us.length ≤ 100 ∧
  ∀ (D : Addr) (zs : List V) (H' : Hp), Same H H' → H D = none → H' D = some (.lst zs) → Pl H' zs (shs ws us) → Q (.ref D) H'
theorem comp_shs {K : PySem.W.Frag} {a b : Addr} {p : Addr} {u : T3} {ys : List V} {us : List T3} {nm : Str} {fr : List Nat} {σ : St} {H : Hp} {Q : VK} (hS : SqL K H b ys) (hP : Pl H ys us) (hu : ∀ v ∈ us, 1 ≤ v.1) (hl : us.length ≤ 100) (hp : H p = some (tupW u)) (u1 : 1 ≤ u.1) (hst : st0 [nm] fr σ = [none, some (.ref p)])
    (hq : ∀ (D : Addr) (zs : List V) (H' : Hp), Same H H' → H D = none → H' D = some (.lst zs) → Pl H' zs (us.map (sh2 u)) → Q (.ref D) H') :
    CompW (Itl K b) (gName 0) tTrue (tCall (sp_sh2 K) [] E0 (tCons (tVar 1) (tCons (tVar 0) tNil))) [nm] fr σ H Q := by
  obtain ⟨Sv, hSv⟩ : ∃ Sv : St → Prop, Sv = fun σ => ∃ o, σ = [o, some (.ref p)] := ⟨_, rfl⟩
  obtain ⟨Pv, hPv⟩ : ∃ Pv : Addr → Nat → List V → Hp → Prop, Pv = fun D i ys H2 => H D = none ∧ Same H H2 ∧ Pl H2 ys ((us.take i).map (sh2 u)) := ⟨_, rfl⟩
  refine compW_list (xs := ys) Sv Pv (by rw [hSv, hst]; exact ⟨none, rfl⟩) (fun D hD => ?_) (fun D i ys H2 hD h => ?_) (fun D i x ys σ H2 hx hi hs hD hy h => ?_) (fun D ys H2 hD h => ?_)
  · rw [hPv]
    exact ⟨hD, same_new hD _, .nil⟩
  · rw [hPv] at h
    exact h.2.1.seq hS
  · rw [hSv] at hs
    rw [hPv] at h
    obtain ⟨o, rfl⟩ := hs
    obtain ⟨nD, g, hQ⟩ := h
    obtain ⟨p2, v, e1, rfl, e3⟩ := hP.at hx
    have v1 := hu v (List.mem_of_getElem? e1)
    rw [hP.1] at hi
    walk_at "wp"
    refine ⟨p, p2, u, v, rfl, SqT.of (g _ _ hp), SqT.of (g _ _ e3), u1, v1, fun t H3 g3 nt ht => ?_⟩
    have hD3 := g3 _ _ hD
    refine CompP.mk hD3 hy (by rw [sizeLine_eq]; omega) (by rw [hSv]; exact ⟨_, rfl⟩) (by
      rw [hPv]
      refine ⟨nD, (g.trans g3).write nD _, ?_⟩
      rw [List.take_add_one, e1, List.map_append]
      exact ((hQ.same g3).snoc ht).upd hD3)
  · rw [hPv] at h
    obtain ⟨nD, g, hQ⟩ := h
    rw [hP.1, List.take_length] at hQ
    exact hq D ys H2 g nD hD hQ
theorem h_shifts (T : TF K mg "shifts" s_shifts) (G_shifts_of_two : Has P w K mg base 2 "shifts_of_two" ["one", "other"] (sp_sh2 K)) : Has P w K mg base 3 "shifts" ["one", "other"] (sp_shifts K) := by
  refine T.has sc_shifts (fun _ _ _ _ _ _ us hl => match us, hl with | [_, _], _ => rfl) (fun vs H Q E h => ?_) (fun f cdv A outer s H vs Q E hr h => ?_)
  · obtain ⟨a, b, xs, ys, ws, us, rfl, _⟩ := h
    rfl
  obtain ⟨a, b, xs, ys, ws, us, rfl, hS, hP, hS2, hP2, hw, hu, lw, lu, q⟩ := h
  refine ⟨_, (pss_cons (ps_set (i := 2) sc_shifts.nd rfl (Or.inl rfl) (pe_lst pa_nil)) (pss_cons (ps_for PassesOwn.never rfl (pi_list (pv 0)) (pg_name (i := 3) sc_shifts.nd rfl (Or.inr rfl)) (pss_one (ps_expr (pe_bm PySem.F.plainAttrs_list PySem.F.slot_list_extend PySem.F.type_list_extend mt_extend (pv 2) (pa_cons (pe_comp (CompSc.capt (own := ["beside"]) (capt := ["waking"]) (fr := [3]) rfl ⟨rfl, rfl, rfl, rfl, rfl, trivial⟩ (by decide +kernel) (by decide +kernel) rfl (by decide +kernel)) rfl (pi_list (pv 1)) (fun _ _ _ => (pg_name (i := 0) (show (["beside", "waking"] : List Str).Nodup from by decide +kernel) rfl (Or.inl rfl) (Or.inr rfl))) (fun _ _ _ => pts_nil) (fun _ _ _ => (pe_def (G_shifts_of_two.mono (by first | decide | omega)) hr (pa_cons (pv 1) (pa_cons (pv 0) pa_nil))))) pa_nil))))) (pss_one (ps_ret (pv 2))))), ?_⟩
  walk_at "wp"
  intro L hL
  have g0 := same_new hL (.lst [])
  refine ⟨⟨_, g0.seq hS⟩, ?_⟩
  obtain ⟨W, hW⟩ : ∃ W : Nat → St → Hp → Prop, W = fun i σ H' => ∃ (o : Option V) (zs : List V), σ = [some (.ref a), some (.ref b), some (.ref L), o] ∧ Same H H' ∧ H' L = some (.lst zs) ∧ Pl H' zs (shs (ws.take i) us) := ⟨_, rfl⟩
  refine forW_list (xs := xs) W ?_ (fun i σ H' _ z => ?_) (fun i x σ H' hx z => ?_) (fun σ H' z => ?_)
  · rw [hW]
    exact ⟨none, [], rfl, g0, upd_same, .nil⟩
  · rw [hW] at z
    obtain ⟨_, _, _, g, _⟩ := z
    exact g.seq hS
  · rw [hW] at z
    obtain ⟨o, zs, rfl, g, hL2, hZ⟩ := z
    obtain ⟨p, u, e1, rfl, e3⟩ := hP.at hx
    have u1 := hw u (List.mem_of_getElem? e1)
    have hi := (List.getElem?_eq_some_iff.mp e1).1
    walk_at "wp"
    refine ⟨.inl ⟨rfl, _, SqL.of hL2⟩, ⟨_, g.seq hS2⟩, ?_⟩
    refine comp_shs (a := a) (g.seq hS2) (hP2.same g) hu lu (g _ _ e3) u1 rfl fun D ds H2 g2 nD hD hQ => ?_
    have lz := hZ.1
    have ld := hQ.1
    rw [shs_len] at lz
    rw [List.length_map] at ld
    have lt : (ws.take i).length ≤ 100 := by rw [List.length_take]; omega
    have lm := Nat.mul_le_mul lt lu
    refine ⟨L, D, zs, ds, rfl, rfl, g2 _ _ hL2, hD, by rw [sizeLine_eq]; omega, ?_⟩
    rw [hW]
    refine ⟨_, _, rfl, (g.trans g2).write hL _, upd_same, ?_⟩
    rw [shs_take e1]
    exact ((hZ.same g2).append hQ).upd (g2 _ _ hL2)
  · rw [hW] at z
    obtain ⟨o, zs, rfl, g, hL2, hZ⟩ := z
    rw [hP.1, List.take_length] at hZ
    walk_at "wp"
    exact q L zs _ g hL hL2 hZ

def tupP (s r : Int) : HO := .tup [.int s, .int r]
def sp_lies_in (K : PySem.W.Frag) : Sp := fun vs H Q _ => ∃ (p p2 : Addr) (u : T3) (s r : Int), vs = [.ref p, .ref p2] ∧ H p = some (tupW u) ∧ SqT K H p2 [.int s, .int r] ∧ 1 ≤ u.1 ∧ 1 ≤ s ∧ Q (.bl (liesB u s r)) H
theorem h_lies_in (T : TF K mg "lies_in" s_lies_in) (G_divisor : Has P w K mg base 1 "divisor" ["one", "other"] sp_divisor) : Has P w K mg base 2 "lies_in" ["waking", "part"] (sp_lies_in K) := by
  refine T.has sc_lies_in (fun _ _ _ _ _ _ us hl => match us, hl with | [_, _], _ => rfl) (fun vs H Q E h => ?_) (fun f cdv A outer s H vs Q E hr h => ?_)
  · obtain ⟨p, p2, u, s, r, rfl, _⟩ := h
    rfl
  obtain ⟨p, p2, u, st, r, rfl, hp, hp2, u1, s1, q⟩ := h
  refine ⟨_, (pss_cons (ps_set (i := 2) sc_lies_in.nd rfl (Or.inl rfl) (pe_ix ix_tup (pv 0) pe_int (fun _ _ => rfl))) (pss_cons (ps_set (i := 3) sc_lies_in.nd rfl (Or.inl rfl) (pe_ix ix_tup (pv 0) pe_int (fun _ _ => rfl))) (pss_cons (ps_set (i := 4) sc_lies_in.nd rfl (Or.inl rfl) (pe_def (G_divisor.mono (by first | decide | omega)) hr (pa_cons (pe_ix ix_tup (pv 1) pe_int (fun _ _ => rfl)) (pa_cons (pv 2) pa_nil)))) (pss_one (ps_ret (pe_cmpR op_ge (pe_op op_mod (pe_op op_sub (pe_op op_sub (pe_ix ix_tup (pv 1) pe_int (fun _ _ => rfl)) (pe_ix ix_tup (pv 0) pe_int (fun _ _ => rfl))) (pv 3)) (pv 4)) (pe_op op_sub (pv 2) (pv 3)) (nomark _))))))), ?_⟩
  have hT : SqT K H p [.int u.1, .int u.2.1, .int u.2.2] := SqT.of hp
  have hT2 : SqT K H p2 [.int st, .int r] := hp2
  have gp := gcdI_pos (a := st) (b := u.1) (by omega)
  walk_at "wp"
  refine ⟨_, _, _, .int u.1, rfl, rfl, hT, rfl, ?_⟩
  refine ⟨_, _, _, .int u.2.2, rfl, rfl, hT, rfl, ?_⟩
  refine ⟨_, _, _, .int st, rfl, rfl, hT2, rfl, ?_⟩
  walk_at "wp"
  refine ⟨_, _, rfl, by omega, by omega, ?_⟩
  refine ⟨_, _, _, .int r, rfl, rfl, hT2, rfl, ?_⟩
  refine ⟨_, _, _, .int u.2.1, rfl, rfl, hT, rfl, ?_⟩
  walk_at "wp"
  refine ⟨gp, ?_⟩
  exact q

def sp_part_of (K : PySem.W.Frag) : Sp := fun vs H Q _ => ∃ (p : Addr) (s r b n : Int), vs = [.ref p, .int b, .int n] ∧ SqT K H p [.int s, .int r] ∧ 0 ≤ b ∧ b < 2 ^ 60 ∧ 0 ≤ n ∧ n < 2 ^ 60 ∧ ∀ D : Addr, H D = none → Q (.ref D) (upd H D (tupP (s * b) (r + s * n)))
theorem h_part_of_part (T : TF K mg "part_of_part" s_part_of_part) : Has P w K mg base 1 "part_of_part" ["part", "by", "number"] (sp_part_of K) := by
  refine T.has sc_part_of_part (fun _ _ _ _ _ _ us hl => match us, hl with | [_, _, _], _ => rfl) (fun vs H Q E h => ?_) (fun f cdv A outer s H vs Q E hr h => ?_)
  · obtain ⟨p, s, r, b, n, rfl, _⟩ := h
    rfl
  obtain ⟨p, st, r, b, n, rfl, hp, b0, b1, n0, n1, q⟩ := h
  refine ⟨_, (pss_one (ps_ret (pe_tup (pa_cons (pe_op op_mulA (pe_ix ix_tup (pv 0) pe_int (fun _ _ => rfl)) (pv 1)) (pa_cons (pe_op op_add (pe_ix ix_tup (pv 0) pe_int (fun _ _ => rfl)) (pe_op op_mulA (pe_ix ix_tup (pv 0) pe_int (fun _ _ => rfl)) (pv 2))) pa_nil))))), ?_⟩
  walk_at "wp"
  refine ⟨_, _, _, .int st, rfl, rfl, hp, rfl, ?_⟩
  walk_at "wp"
  refine ⟨mokS (by omega) (by omega), ?_⟩
  refine ⟨_, _, _, .int r, rfl, rfl, hp, rfl, ?_⟩
  refine ⟨_, _, _, .int st, rfl, rfl, hp, rfl, ?_⟩
  walk_at "wp"
  exact ⟨mokS (by omega) (by omega), fun D hD => q D hD⟩
def sp_right_for (K : PySem.W.Frag) (d : Nat) : Sp := fun vs H Q _ => ∃ (a pt : Addr) (v : V) (xs : List V) (ws : List T3) (s r : Int) (p : Pap), vs = [.ref a, .ref pt, v] ∧ SqL K H a xs ∧ Pl H xs ws ∧ (∀ u ∈ ws, 1 ≤ u.1) ∧ SqT K H pt [.int s, .int r] ∧ 1 ≤ s ∧ PapIn K anyL H v p ∧ p.dep < d ∧ ∀ H', Same H H' → Q (.bl (rightB ws s r p)) H'
theorem h_right_for (T : TF K mg "right_for" s_right_for) (m_len : mg "len" = none) (m_enumerate : mg "enumerate" = none) (G_lies_in : Has P w K mg base 2 "lies_in" ["waking", "part"] (sp_lies_in K)) (G_part_of_part : Has P w K mg base 1 "part_of_part" ["part", "by", "number"] (sp_part_of K)) :
    ∀ d : Nat, Has P w K mg base (d + 3) "right_for" ["plan", "part", "paper"] (sp_right_for K d) := by
  intro d
  induction d with
  | zero =>
    refine T.has sc_right_for (fun _ _ _ _ _ _ us hl => match us, hl with | [_, _, _], _ => rfl) (fun vs H Q E h => ?_) (fun f cdv A outer s H vs Q E hr h => ?_)
    · obtain ⟨_, _, _, _, _, _, _, _, _, _, _, _, _, _, _, h, _⟩ := h
      exact absurd h (Nat.not_lt_zero _)
    · obtain ⟨_, _, _, _, _, _, _, _, _, _, _, _, _, _, _, h, _⟩ := h
      exact absurd h (Nat.not_lt_zero _)
  | succ d ih =>
  have G_right_for := ih
  refine T.has sc_right_for (fun _ _ _ _ _ _ us hl => match us, hl with | [_, _, _], _ => rfl) (fun vs H Q E h => ?_) (fun f cdv A outer s H vs Q E hr h => ?_)
  · obtain ⟨a, pt, v, xs, ws, s, r, p, rfl, _⟩ := h
    rfl
  obtain ⟨a, pt, v, xs, ws, st, r, p, rfl, hS, hP, hw, hpt, s1, hv, hd, q⟩ := h
  refine ⟨_, (pss_cons (ps_if (pt_cmpR op_eq (pe_ix ix_tup (pv 2) pe_int (fun _ _ => rfl)) pe_str (nomark _)) (pss_one (ps_ret (pe_and (pe_chain op_le op_lt pe_int (pe_ix ix_tup (pv 2) pe_int (fun _ _ => rfl)) (pe_callB call_len_seq rfl m_len PySem.boot_len (pa_cons (pv 0) pa_nil))) (pe_one (pe_def (G_lies_in.mono (by first | decide | omega)) hr (pa_cons (pe_ix ix_list (pv 0) (pe_ix ix_tup (pv 2) pe_int (fun _ _ => rfl)) (fun _ _ => rfl)) (pa_cons (pv 1) pa_nil))))))) pss_nil) (pss_cons (ps_set (i := 3) sc_right_for.nd rfl (Or.inl rfl) (pe_ix ix_tup (pv 2) pe_int (fun _ _ => rfl))) (pss_cons (ps_if (PW.pt (pw_or (pt_cmpR op_lt (pv 3) pe_int (nomark _)) (pw_or1 (pt_cmpR op_ne (pe_callB call_len_seq rfl m_len PySem.boot_len (pa_cons (pe_ix ix_tup (pv 2) pe_int (fun _ _ => rfl)) pa_nil)) (pv 3) (nomark _))))) (pss_one (ps_ret pe_bl)) pss_nil) (pss_cons (ps_for PassesOwn.never rfl (pi_enum rfl m_enumerate (pe_ix ix_tup (pv 2) pe_int (fun _ _ => rfl))) (pg_tup rfl (pgs_cons (pg_name (i := 4) sc_right_for.nd rfl (Or.inl rfl)) (pgs_cons (pg_name (i := 5) sc_right_for.nd rfl (Or.inl rfl)) pgs_nil))) (pss_one (ps_if (pt_not (pt_val (pe_def (G_right_for.mono (by first | decide | omega)) hr (pa_cons (pv 0) (pa_cons (pe_def (G_part_of_part.mono (by first | decide | omega)) hr (pa_cons (pv 1) (pa_cons (pv 3) (pa_cons (pv 4) pa_nil)))) (pa_cons (pv 5) pa_nil)))) (fun _ => rfl))) (pss_one (ps_ret pe_bl)) pss_nil))) (pss_one (ps_ret pe_bl)))))), ?_⟩
  cases hv with
  | @inn b k hb =>
    have hT : SqT K H b [.str "in", .int k] := SqT.of hb
    walk_at "wp"
    refine ⟨_, _, _, .str "in", rfl, rfl, hT, rfl, rfl, ?_⟩
    walk_at "wp"
    refine ⟨_, _, _, .int k, rfl, rfl, hT, rfl, ?_⟩
    walk_at "wp"
    have q1 := q H (Same.refl H)
    unfold rightB at q1
    refine ⟨fun c1 => ?_, fun c1 => ?_⟩
    · refine ⟨_, _, rfl, .inl hS, ?_⟩
      rw [hP.1]
      walk_at "wp"
      refine ⟨fun c2 => ?_, fun c2 => ?_⟩
      · refine ⟨_, _, _, .int k, rfl, rfl, hT, rfl, ?_⟩
        obtain ⟨b2, u, e1, e2, e3, e4⟩ := hP.ix c1 c2
        refine rIxL_mk hS e1 ⟨b2, pt, u, st, r, rfl, e4, hpt, hw u e3, s1, ?_⟩
        have eg : ws.getD k.toNat (1, 0, 1) = u := by rw [List.getD_eq_getElem?_getD, e2]; rfl
        rw [decide_eq_true c1, decide_eq_true c2, eg] at q1
        simpa using q1
      · rw [decide_eq_false c2] at q1
        simpa using q1
    · rw [decide_eq_false c1] at q1
      simpa using q1
  | @par b l bb ys ps hb hl _ lz hs =>
    have hT : SqT K H b [.str "parted", .int bb, .ref l] := SqT.of hb
    simp only [Pap.dep] at hd
    walk_at "wp"
    refine ⟨_, _, _, .str "parted", rfl, rfl, hT, rfl, rfl, ?_⟩
    walk_at "wp"
    refine ⟨fun c => absurd c (by decide), fun _ => ?_⟩
    refine ⟨_, _, _, .int bb, rfl, rfl, hT, rfl, ?_⟩
    walk_at "wp"
    have hlen := hs.len
    refine ⟨fun c1 => ?_, fun c1 => ?_⟩
    · have q1 := q H (Same.refl H)
      unfold rightB at q1
      rw [decide_eq_false (show ¬ 2 ≤ bb by omega), Bool.false_and] at q1
      exact q1
    · refine ⟨_, _, _, .ref l, rfl, rfl, hT, rfl, ?_⟩
      refine ⟨_, _, rfl, .inl (SqL.of hl), ?_⟩
      walk_at "wp"
      refine ⟨fun c2 => ?_, fun c2 => ?_⟩
      · have q1 := q H (Same.refl H)
        unfold rightB at q1
        rw [decide_eq_true (show 2 ≤ bb by omega), decide_eq_false (show ¬ (ps.length : Int) = bb by rw [← hlen]; exact c2)] at q1
        simpa using q1
      · have c2' : (ys.length : Int) = bb := by omega
        refine ⟨_, _, _, .ref l, rfl, rfl, hT, rfl, ?_⟩
        walk_at "wp"
        refine ⟨_, _, rfl, SqL.of hl, ?_⟩
        obtain ⟨W, hW⟩ : ∃ W : Nat → St → Hp → Prop, W = fun i σ H' => ∃ o1 o2 : Option V, σ = [some (.ref a), some (.ref pt), some (.ref b), some (.int bb), o1, o2] ∧ Same H H' ∧ rightsB ws st r bb 0 (ps.take i) = true := ⟨_, rfl⟩
        refine forW_enum (xs := ys) W ?_ (fun i σ H' z => ?_) (fun i x T2 σ H' hx nT z => ?_) (fun σ H' z => ?_)
        · rw [hW]
          exact ⟨none, none, rfl, Same.refl _, by simp [rightsB]⟩
        · rw [hW] at z
          obtain ⟨_, _, _, g, _⟩ := z
          exact SqL.of (g _ _ hl)
        · rw [hW] at z
          obtain ⟨o1, o2, rfl, g, hr2⟩ := z
          obtain ⟨p, e1, hp⟩ := hs.at hx
          have hi := (List.getElem?_eq_some_iff.mp hx).1
          have g1 := g.trans (same_new nT (.tup [.int i, x]))
          refine ⟨T2, _, rfl, SqT.of upd_same, rfl, ?_⟩
          walk_at "wp"
          refine ⟨pt, st, r, bb, _, rfl, Same.seqT g1 hpt, by omega, by omega, by omega, by omega, fun D hD => ?_⟩
          have g2 := g1.trans (same_new hD (tupP (st * bb) (r + st * i)))
          have sp : 1 ≤ st * bb := by
            have := Int.mul_le_mul s1 (show 1 ≤ bb by omega) (by decide) (by omega)
            omega
          refine ⟨a, D, x, xs, ws, st * bb, r + st * i, p, rfl, g2.seq hS, hP.same g2, hw, SqT.of upd_same, sp, hp.mono g2, ?_, fun H3 g3 => ?_⟩
          · have := Pap.dep_mem (List.mem_of_getElem? e1)
            omega
          have gg := g2.trans g3
          cases c : rightB ws (st * bb) (r + st * i) p with
          | true =>
            walk_at "wp"
            rw [hW]
            refine ⟨_, _, rfl, gg, ?_⟩
            rw [rightsB_take e1, hr2, Nat.zero_add, c]
            rfl
          | false =>
            walk_at "wp"
            have q1 := q H3 gg
            unfold rightB at q1
            rw [rightsB_false e1 (by rw [Nat.zero_add]; exact c), Bool.and_false, Bool.and_false] at q1
            exact q1
        · rw [hW] at z
          obtain ⟨o1, o2, rfl, g, hr2⟩ := z
          rw [hlen, List.take_length] at hr2
          walk_at "wp"
          have q1 := q H' g
          unfold rightB at q1
          rw [decide_eq_true (show 2 ≤ bb by omega), decide_eq_true (show (ps.length : Int) = bb by omega), hr2] at q1
          exact q1

def sp_lets (K : PySem.W.Frag) (d : Nat) : Sp := fun vs H Q _ => ∃ (a : Addr) (v : V) (xs : List V) (ws : List T3) (p : Pap), vs = [.ref a, v] ∧ SqL K H a xs ∧ Pl H xs ws ∧ (∀ u ∈ ws, 1 ≤ u.1) ∧ PapIn K anyL H v p ∧ p.dep < d ∧ ∀ H', Same H H' → Q (.bl (rightB ws 1 0 p)) H'
theorem h_lets_by {d : Nat} (T : TF K mg "lets_by" s_lets_by) (C_ALL_TURNS : CT K mg "ALL_TURNS" [1, 0]) (G_right_for : Has P w K mg base (d + 3) "right_for" ["plan", "part", "paper"] (sp_right_for K d)) : Has P w K mg base (d + 4) "lets_by" ["plan", "paper"] (sp_lets K d) := by
  obtain ⟨a_ALL_TURNS, e_ALL_TURNS, hAT⟩ := C_ALL_TURNS
  refine T.has sc_lets_by (fun _ _ _ _ _ _ us hl => match us, hl with | [_, _], _ => rfl) (fun vs H Q E h => ?_) (fun f cdv A outer s H vs Q E hr h => ?_)
  · obtain ⟨a, v, xs, ws, p, rfl, _⟩ := h
    rfl
  obtain ⟨a, v, xs, ws, p, rfl, hS, hP, hw, hv, hd, q⟩ := h
  refine ⟨_, (pss_one (ps_ret (pe_def (G_right_for.mono (by first | decide | omega)) hr (pa_cons (pv 0) (pa_cons (pe_glob (v := .ref a_ALL_TURNS) rfl e_ALL_TURNS rfl) (pa_cons (pv 1) pa_nil)))))), ?_⟩
  walk_at "wp"
  exact ⟨a, a_ALL_TURNS, v, xs, ws, 1, 0, p, rfl, hS, hP, hw, hAT H, by decide, hv, hd, q⟩

def sp_lets_meet (K : PySem.W.Frag) (d : Nat) : Sp := fun vs H Q _ => ∃ (a b : Addr) (v : V) (xs ys : List V) (ws us : List T3) (p : Pap), vs = [.ref a, .ref b, v] ∧ SqL K H a xs ∧ Pl H xs ws ∧ SqL K H b ys ∧ Pl H ys us ∧ (∀ u ∈ ws, Wk u) ∧ (∀ u ∈ us, Wk u) ∧ ws.length ≤ 100 ∧ us.length ≤ 100 ∧ PapIn K anyL H v p ∧ p.dep < d ∧ ∀ H', Same H H' → Q (.bl (rightB (shs ws us) 1 0 p)) H'
theorem h_lets_meet {d : Nat} (T : TF K mg "lets_meet" s_lets_meet) (G_shifts : Has P w K mg base 3 "shifts" ["one", "other"] (sp_shifts K)) (G_lets_by : Has P w K mg base (d + 4) "lets_by" ["plan", "paper"] (sp_lets K d)) : Has P w K mg base (d + 5) "lets_meet" ["one", "other", "paper"] (sp_lets_meet K d) := by
  refine T.has sc_lets_meet (fun _ _ _ _ _ _ us hl => match us, hl with | [_, _, _], _ => rfl) (fun vs H Q E h => ?_) (fun f cdv A outer s H vs Q E hr h => ?_)
  · obtain ⟨a, b, v, xs, ys, ws, us, p, rfl, _⟩ := h
    rfl
  obtain ⟨a, b, v, xs, ys, ws, us, p, rfl, hS, hP, hS2, hP2, hw, hu, lw, lu, hv, hd, q⟩ := h
  refine ⟨_, (pss_one (ps_ret (pe_def (G_lets_by.mono (by first | decide | omega)) hr (pa_cons (pe_def (G_shifts.mono (by first | decide | omega)) hr (pa_cons (pv 0) (pa_cons (pv 1) pa_nil))) (pa_cons (pv 2) pa_nil))))), ?_⟩
  walk_at "wp"
  refine ⟨a, b, xs, ys, ws, us, rfl, hS, hP, hS2, hP2, fun u h => (hw u h).1, fun u h => (hu u h).1, lw, lu, fun D zs H1 g1 nD hD hZ => ?_⟩
  exact ⟨D, v, zs, _, p, rfl, SqL.of hD, hZ, fun u h => (shs_wk hw hu u h).1, hv.mono g1, hd, fun H' g' => q H' (g1.trans g')⟩

def sp_names (K : PySem.W.Frag) (d : Nat) : Sp := fun vs H Q _ => ∃ (v : V) (p : Pap), vs = [v] ∧ PapIn K anyL H v p ∧ p.dep < d ∧ p.kn ≤ 2 ^ 20 ∧ ∀ (D : Addr) (H' : Hp), Same H H' → H D = none → H' D = some (IL p.nm) → Q (.ref D) H'
theorem h_paper_names (T : TF K mg "paper_names" s_paper_names) : ∀ d : Nat, Has P w K mg base (d + 1) "paper_names" ["paper"] (sp_names K d) := by
  intro d
  induction d with
  | zero =>
    refine T.has sc_paper_names (fun _ _ _ _ _ _ us hl => match us, hl with | [_], _ => rfl) (fun vs H Q E h => ?_) (fun f cdv A outer s H vs Q E hr h => ?_)
    · obtain ⟨_, _, _, _, h, _⟩ := h
      exact absurd h (Nat.not_lt_zero _)
    · obtain ⟨_, _, _, _, h, _⟩ := h
      exact absurd h (Nat.not_lt_zero _)
  | succ d ih =>
  have G_paper_names := ih
  refine T.has sc_paper_names (fun _ _ _ _ _ _ us hl => match us, hl with | [_], _ => rfl) (fun vs H Q E h => ?_) (fun f cdv A outer s H vs Q E hr h => ?_)
  · obtain ⟨v, p, rfl, _⟩ := h
    rfl
  obtain ⟨v, p, rfl, hv, hd, hk, q⟩ := h
  refine ⟨_, (pss_cons (ps_if (pt_cmpR op_eq (pe_ix ix_tup (pv 0) pe_int (fun _ _ => rfl)) pe_str (nomark _)) (pss_one (ps_ret (pe_lst (pa_cons (pe_ix ix_tup (pv 0) pe_int (fun _ _ => rfl)) pa_nil)))) pss_nil) (pss_cons (ps_set (i := 1) sc_paper_names.nd rfl (Or.inl rfl) (pe_lst pa_nil)) (pss_cons (ps_for PassesOwn.never rfl (pi_list (pe_ix ix_tup (pv 0) pe_int (fun _ _ => rfl))) (pg_name (i := 2) sc_paper_names.nd rfl (Or.inl rfl)) (pss_one (ps_expr (pe_bm PySem.F.plainAttrs_list PySem.F.slot_list_extend PySem.F.type_list_extend mt_extend (pv 1) (pa_cons (pe_def (G_paper_names.mono (by first | decide | omega)) hr (pa_cons (pv 2) pa_nil)) pa_nil))))) (pss_one (ps_ret (pv 1)))))), ?_⟩
  cases hv with
  | @inn b k hb =>
    have hT : SqT K H b [.str "in", .int k] := SqT.of hb
    walk_at "wp"
    refine ⟨_, _, _, .str "in", rfl, rfl, hT, rfl, rfl, ?_⟩
    walk_at "wp"
    refine ⟨_, _, _, .int k, rfl, rfl, hT, rfl, fun D hD => ?_⟩
    exact q D _ (same_new hD _) hD upd_same
  | @par b l bb ys ps hb hl _ lz hs =>
    have hT : SqT K H b [.str "parted", .int bb, .ref l] := SqT.of hb
    simp only [Pap.dep] at hd
    simp only [Pap.kn] at hk
    have hlen := hs.len
    walk_at "wp"
    refine ⟨_, _, _, .str "parted", rfl, rfl, hT, rfl, rfl, ?_⟩
    walk_at "wp"
    refine ⟨fun c => absurd c (by decide), fun _ D hD => ?_⟩
    have g0 := same_new hD (.lst [])
    refine ⟨_, _, _, .ref l, rfl, rfl, Same.seqT g0 hT, rfl, ?_⟩
    refine ⟨_, rfl, ⟨_, SqL.of (g0 _ _ hl)⟩, ?_⟩
    obtain ⟨W, hW⟩ : ∃ W : Nat → St → Hp → Prop, W = fun i σ H' => ∃ o : Option V, σ = [some (.ref b), some (.ref D), o] ∧ Same H H' ∧ H' D = some (IL (Pap.nms (ps.take i))) := ⟨_, rfl⟩
    refine forW_list (xs := ys) W ?_ (fun i σ H' _ z => ?_) (fun i x σ H' hx z => ?_) (fun σ H' z => ?_)
    · rw [hW]
      exact ⟨none, rfl, g0, upd_same⟩
    · rw [hW] at z
      obtain ⟨_, _, g, _⟩ := z
      exact SqL.of (g _ _ hl)
    · rw [hW] at z
      obtain ⟨o, rfl, g, hD2⟩ := z
      obtain ⟨p, e1, hp⟩ := hs.at hx
      have m1 := Pap.dep_mem (List.mem_of_getElem? e1)
      have m2 := Pap.kn_mem (List.mem_of_getElem? e1)
      walk_at "wp"
      refine ⟨.inl ⟨rfl, _, SqL.of hD2⟩, x, p, rfl, hp.mono g, by omega, by omega, fun E2 H3 g3 nE hE => ?_⟩
      have hD3 := g3 _ _ hD2
      have l1 := Pap.nms_len (ps.take i)
      have l2 := p.nm_len
      have l3 := Pap.kns_take e1
      have l4 : Pap.kns (ps.take (i + 1)) ≤ Pap.kns ps := by
        have := Pap.kns_append (ps.take (i + 1)) (ps.drop (i + 1))
        rw [List.take_append_drop] at this
        omega
      refine ⟨_, _, _, _, rfl, rfl, hD3, hE, by rw [List.length_map, List.length_map, sizeLine_eq]; omega, ?_⟩
      rw [hW]
      refine ⟨_, rfl, (g.trans g3).write hD _, ?_⟩
      rw [upd_same, Pap.nms_take e1]
      simp
    · rw [hW] at z
      obtain ⟨o, rfl, g, hD2⟩ := z
      rw [hlen, List.take_length] at hD2
      walk_at "wp"
      exact q D H' g hD hD2

def awk (w : T3) (t : Int) : Bool := decide ((t - w.2.1) % w.1 < w.2.2)
def awakeB (ws : List T3) (t : Int) : Bool := ws.any fun w => awk w t
def sp_awake (K : PySem.W.Frag) : Sp := fun vs H Q _ => ∃ (a : Addr) (t : Int) (xs : List V) (ws : List T3), vs = [.ref a, .int t] ∧ SqL K H a xs ∧ Pl H xs ws ∧ (∀ u ∈ ws, 1 ≤ u.1) ∧ Q (.bl (awakeB ws t)) H
theorem any_take {α : Type} {f : α → Bool} {l : List α} {i : Nat} {x : α} (e : l[i]? = some x) : (l.take (i + 1)).any f = ((l.take i).any f || f x) := by
  rw [List.take_add_one, e, List.any_append]
  simp
theorem any_true {α : Type} {f : α → Bool} {l : List α} {i : Nat} {x : α} (e : l[i]? = some x) (h : f x = true) : l.any f = true := List.any_eq_true.mpr ⟨x, List.mem_of_getElem? e, h⟩
theorem h_awake (T : TF K mg "awake" s_awake) : Has P w K mg base 1 "awake" ["plan", "turn"] (sp_awake K) := by
  refine T.has sc_awake (fun _ _ _ _ _ _ us hl => match us, hl with | [_, _], _ => rfl) (fun vs H Q E h => ?_) (fun f cdv A outer s H vs Q E hr h => ?_)
  · obtain ⟨a, t, xs, ws, rfl, _⟩ := h
    rfl
  obtain ⟨a, t, xs, ws, rfl, hS, hP, hw, q⟩ := h
  refine ⟨_, (pss_cons (ps_for PassesOwn.never rfl (pi_list (pv 0)) (pg_tup rfl (pgs_cons (pg_name (i := 2) sc_awake.nd rfl (Or.inl rfl)) (pgs_cons (pg_name (i := 3) sc_awake.nd rfl (Or.inl rfl)) (pgs_cons (pg_name (i := 4) sc_awake.nd rfl (Or.inl rfl)) pgs_nil)))) (pss_one (ps_if (pt_cmpR op_lt (pe_op op_mod (pe_op op_sub (pv 1) (pv 3)) (pv 2)) (pv 4) (nomark _)) (pss_one (ps_ret pe_bl)) pss_nil))) (pss_one (ps_ret pe_bl))), ?_⟩
  walk_at "wp"
  refine ⟨⟨_, hS⟩, ?_⟩
  obtain ⟨W, hW⟩ : ∃ W : Nat → St → Hp → Prop, W = fun i σ H' => ∃ o1 o2 o3 : Option V, σ = [some (.ref a), some (.int t), o1, o2, o3] ∧ H' = H ∧ (ws.take i).any (fun w => awk w t) = false := ⟨_, rfl⟩
  refine forW_list (xs := xs) W ?_ (fun i σ H' _ z => ?_) (fun i x σ H' hx z => ?_) (fun σ H' z => ?_)
  · rw [hW]
    exact ⟨none, none, none, rfl, rfl, rfl⟩
  · rw [hW] at z
    obtain ⟨_, _, _, _, rfl, _⟩ := z
    exact hS
  · rw [hW] at z
    obtain ⟨o1, o2, o3, rfl, rfl, ha⟩ := z
    obtain ⟨p, u, e1, rfl, e3⟩ := hP.at hx
    refine ⟨p, _, rfl, SqT.of e3, rfl, ?_⟩
    have u1 := hw u (List.mem_of_getElem? e1)
    walk_at "wp"
    refine ⟨by omega, fun c => ?_, fun c => ?_⟩
    · have e : awakeB ws t = true := any_true e1 (decide_eq_true c)
      rw [e] at q
      exact q
    · rw [hW]
      exact ⟨_, _, _, rfl, rfl, by rw [any_take e1, ha]; exact decide_eq_false c⟩
  · rw [hW] at z
    obtain ⟨o1, o2, o3, rfl, rfl, ha⟩ := z
    rw [hP.1, List.take_length] at ha
    walk_at "wp"
    have e : awakeB ws t = false := ha
    rw [e] at q
    exact q

def shW (by_ : Int) (u : T3) : T3 := (u.1, (u.2.1 + by_) % u.1, u.2.2)
def sp_shifted (K : PySem.W.Frag) : Sp := fun vs H Q _ => ∃ (a : Addr) (b : Int) (xs : List V) (ws : List T3), vs = [.ref a, .int b] ∧ SqL K H a xs ∧ Pl H xs ws ∧ (∀ u ∈ ws, 1 ≤ u.1) ∧ ws.length ≤ 1000 ∧ ∀ (D : Addr) (ys : List V) (H' : Hp), Same H H' → H D = none → H' D = some (.lst ys) → Pl H' ys (ws.map (shW b)) → Q (.ref D) H'
theorem h_shifted (T : TF K mg "shifted" s_shifted) : Has P w K mg base 1 "shifted" ["plan", "by"] (sp_shifted K) := by
  refine T.has sc_shifted (fun _ _ _ _ _ _ us hl => match us, hl with | [_, _], _ => rfl) (fun vs H Q E h => ?_) (fun f cdv A outer s H vs Q E hr h => ?_)
  · obtain ⟨a, b, xs, ws, rfl, _⟩ := h
    rfl
  obtain ⟨a, b, xs, ws, rfl, hS, hP, hw, hlen, q⟩ := h
  refine ⟨_, (pss_one (ps_ret (pe_comp (CompSc.capt (own := ["period", "first", "length"]) (capt := ["by"]) (fr := [1]) rfl ⟨rfl, rfl, rfl, rfl, rfl, trivial⟩ (by decide +kernel) (by decide +kernel) rfl (by decide +kernel)) rfl (pi_list (pv 0)) (fun _ _ _ => (show PG _ _ (gTup K 3 (gCons (gName 0) (gCons (gName 1) (gCons (gName 2) gNil)))) from pg_tup (n := 3) rfl (pgs_cons (pg_name (i := 0) (show (["period", "first", "length", "by"] : List Str).Nodup from by decide +kernel) rfl (Or.inl rfl) (Or.inr rfl)) (pgs_cons (pg_name (i := 1) (show (["period", "first", "length", "by"] : List Str).Nodup from by decide +kernel) rfl (Or.inl rfl) (Or.inr rfl)) (pgs_cons (pg_name (i := 2) (show (["period", "first", "length", "by"] : List Str).Nodup from by decide +kernel) rfl (Or.inl rfl) (Or.inr rfl)) pgs_nil))))) (fun _ _ _ => pts_nil) (fun _ _ _ => (pe_tup (pa_cons (pv 0) (pa_cons (pe_op op_mod (pe_op op_add (pv 1) (pv 3)) (pv 0)) (pa_cons (pv 2) pa_nil)))))))), ?_⟩
  walk_at "wp"
  refine ⟨⟨_, hS⟩, ?_⟩
  obtain ⟨Sv, hSv⟩ : ∃ Sv : St → Prop, Sv = fun σ => ∃ o1 o2 o3, σ = [o1, o2, o3, some (.int b)] := ⟨_, rfl⟩
  obtain ⟨Pv, hPv⟩ : ∃ Pv : Addr → Nat → List V → Hp → Prop, Pv = fun D i ys H2 => H D = none ∧ Same H H2 ∧ Pl H2 ys ((ws.take i).map (shW b)) := ⟨_, rfl⟩
  refine compW_list (xs := xs) Sv Pv (by rw [hSv]; exact ⟨none, none, none, rfl⟩) (fun D hD => ?_) (fun D i ys H2 hD h => ?_) (fun D i x ys σ H2 hx hi hs hD hy h => ?_) (fun D ys H2 hD h => ?_)
  · rw [hPv]
    exact ⟨hD, same_new hD _, .nil⟩
  · rw [hPv] at h
    exact h.2.1.seq hS
  · rw [hSv] at hs
    rw [hPv] at h
    obtain ⟨o1, o2, o3, rfl⟩ := hs
    obtain ⟨nD, g, hQ⟩ := h
    obtain ⟨p, u, e1, rfl, e3⟩ := hP.at hx
    have u1 := hw u (List.mem_of_getElem? e1)
    rw [hP.1] at hi
    refine ⟨p, _, rfl, SqT.of (g _ _ e3), rfl, ?_⟩
    walk_at "wp"
    refine ⟨by omega, fun t ht => ?_⟩
    have gt := same_new ht (tupW (shW b u))
    have hD3 := gt _ _ hD
    refine CompP.mk hD3 hy (by rw [sizeLine_eq]; omega) (by rw [hSv]; exact ⟨_, _, _, rfl⟩) (by
      rw [hPv]
      refine ⟨nD, (g.trans gt).write nD _, ?_⟩
      rw [List.take_add_one, e1, List.map_append]
      exact ((hQ.same gt).snoc upd_same).upd hD3)
  · rw [hPv] at h
    obtain ⟨nD, g, hQ⟩ := h
    rw [hP.1, List.take_length] at hQ
    exact q D ys H2 g nD hD hQ

def sp_divided_up : Sp := fun vs H Q _ => ∃ n b : Int, vs = [.int n, .int b] ∧ 0 < b ∧ b < 2 ^ 1000 ∧ Q (.int (cdiv n b)) H
theorem h_divided_up (T : TF K mg "divided_up" s_divided_up) : Has P w K mg base 1 "divided_up" ["number", "by"] sp_divided_up := by
  refine T.has sc_divided_up (fun _ _ _ _ _ _ us hl => match us, hl with | [_, _], _ => rfl) (fun vs H Q E h => ?_) (fun f cdv A outer s H vs Q E hr h => ?_)
  · obtain ⟨a, b, rfl, _⟩ := h
    rfl
  obtain ⟨a, b, rfl, hb, hb2, q⟩ := h
  refine ⟨_, (pss_one (ps_ret (pe_un un_neg (pe_op op_fdivA (pe_un un_neg (pv 0)) (pv 1))))), ?_⟩
  walk_at "wp"
  exact ⟨divA 1000 hb (by omega) (by decide), q⟩
def Tups (H : Hp) (xs : List V) (lv : List T3) : Prop := xs.length = lv.length ∧ ∀ (i : Nat) t, lv[i]? = some t → ∃ p, xs[i]? = some (.ref p) ∧ H p = some (.tup [.int t.1, .int t.2.1, .int t.2.2])
def sp_climbed (K : PySem.W.Frag) : Sp := fun vs H Q _ => ∃ (L : Addr) (xs : List V) (lv : List T3) (h : Int), vs = [.ref L, .int h] ∧ SqL K H L xs ∧ Tups H xs lv ∧ (∀ t ∈ lv, 0 < t.2.1 ∧ t.2.1 < 2 ^ 1000 ∧ 0 ≤ t.1 ∧ t.1 < 2 ^ 1000) ∧
  (∀ i : Nat, 0 ≤ climb (lv.drop i) h ∧ climb (lv.drop i) h < 2 ^ 1000) ∧ Q (.int (climb lv h)) H
theorem h_climbed (T : TF K mg "climbed" s_climbed) (m_reversed : mg "reversed" = none) (G_divided_up : Has P w K mg base 1 "divided_up" ["number", "by"] sp_divided_up) : Has P w K mg base 2 "climbed" ["levels", "hit"] (sp_climbed K) := by
  refine T.has sc_climbed (fun _ _ _ _ _ _ us hl => match us, hl with | [_, _], _ => rfl) (fun vs H Q E h => ?_) (fun f cdv A outer s H vs Q E hr h => ?_)
  · obtain ⟨a, xs, lv, b, rfl, _⟩ := h
    rfl
  obtain ⟨L, xs, lv, h, rfl, hS, ⟨hl, ht⟩, hb, hc, q⟩ := h
  refine ⟨_, (pss_cons (ps_for PassesOwn.never rfl (pi_rev rfl m_reversed (pv 0)) (pg_tup rfl (pgs_cons (pg_name (i := 2) sc_climbed.nd rfl (Or.inl rfl)) (pgs_cons (pg_name (i := 3) sc_climbed.nd rfl (Or.inl rfl)) (pgs_cons (pg_name (i := 4) sc_climbed.nd rfl (Or.inl rfl)) pgs_nil)))) (pss_one (ps_set (i := 1) sc_climbed.nd rfl (Or.inl rfl) (pe_def (G_divided_up.mono (by first | decide | omega)) hr (pa_cons (pe_op op_add (pe_op op_mulA (pv 2) (pv 1)) (pv 4)) (pa_cons (pv 3) pa_nil)))))) (pss_one (ps_ret (pv 1)))), ?_⟩
  walk_at "wp"
  refine ⟨L, xs, rfl, hS, ?_⟩
  obtain ⟨W, hW⟩ : ∃ W : Nat → St → Hp → Prop, W = fun i σ H' => ∃ o1 o2 o3 : Option V, σ = [some (.ref L), some (.int (climb (lv.drop (lv.length - i)) h)), o1, o2, o3] ∧ H' = H := ⟨_, rfl⟩
  refine forW_rev W ?_ (fun i σ H' _ z => ?_) (fun i x σ H' hi hx z => ?_) (fun σ H' z => ?_)
  · rw [hW]
    exact ⟨none, none, none, by rw [Nat.sub_zero, List.drop_length]; rfl, rfl⟩
  · rw [hW] at z
    obtain ⟨_, _, _, _, rfl⟩ := z
    exact hS
  · rw [hW] at z
    obtain ⟨o1, o2, o3, rfl, rfl⟩ := z
    rw [hl] at hi hx
    have hk : lv.length - 1 - i < lv.length := by omega
    obtain ⟨p, hp, hT⟩ := ht (lv.length - 1 - i) lv[lv.length - 1 - i] (List.getElem?_eq_getElem hk)
    rw [hx] at hp
    cases hp
    have ed : lv.drop (lv.length - (i + 1)) = lv[lv.length - 1 - i] :: lv.drop (lv.length - i) := by
      have e1 : lv.length - (i + 1) = lv.length - 1 - i := by omega
      have e2 : lv.length - i = lv.length - 1 - i + 1 := by omega
      rw [e1, e2]
      exact List.drop_eq_getElem_cons hk
    have bt := hb _ (List.getElem_mem hk)
    have bc := hc (lv.length - i)
    generalize lv[lv.length - 1 - i] = t at hT ed bt
    refine ⟨p, _, rfl, SqT.of hT, rfl, ?_⟩
    walk_at "wp"
    refine ⟨mok 1000 1000 (by omega) (by omega) (by decide), _, _, rfl, bt.1, bt.2.1, ?_⟩
    rw [hW]
    exact ⟨_, _, _, by rw [ed]; rfl, rfl⟩
  · rw [hW] at z
    obtain ⟨o1, o2, o3, rfl, rfl⟩ := z
    walk_at "wp"
    rw [hl, Nat.sub_self, List.drop_zero]
    exact q
theorem Tups.same {H H' : Hp} {xs : List V} {lv : List T3} (g : Same H H') (h : Tups H xs lv) : Tups H' xs lv := ⟨h.1, fun i t e => let ⟨p, e1, e2⟩ := h.2 i t e; ⟨p, e1, g _ _ e2⟩⟩
theorem Tups.snoc {H : Hp} {xs : List V} {lv : List T3} {L p : Addr} {ys : List V} {t : T3} (h : Tups H xs lv) (hL : H L = some (.lst ys)) (hp : H p = none) (zs : List V) :
    Tups (upd (upd H p (.tup [.int t.1, .int t.2.1, .int t.2.2])) L (.lst zs)) (xs ++ [.ref p]) (lv ++ [t]) := by
  have pL : p ≠ L := fun e => by rw [e, hL] at hp; cases hp
  refine ⟨by simp [h.1], fun i u e => ?_⟩
  by_cases c : i < lv.length
  · rw [List.getElem?_append_left c] at e
    obtain ⟨b, e1, e2⟩ := h.2 i u e
    have bL : b ≠ L := ne_of e2 hL (by intro z; cases z)
    have bp : b ≠ p := ne_of_none e2 hp
    refine ⟨b, by rw [List.getElem?_append_left (by rw [h.1]; exact c)]; exact e1, ?_⟩
    rw [upd_ne bL, upd_ne bp]
    exact e2
  · rw [List.getElem?_append_right (by omega)] at e
    have : i - lv.length = 0 := by
      rcases Nat.eq_zero_or_pos (i - lv.length) with z | z
      · exact z
      · rw [List.getElem?_eq_none (by simp; omega)] at e; cases e
    rw [this] at e
    cases e
    refine ⟨p, by rw [List.getElem?_append_right (by rw [h.1]; omega), h.1, this]; rfl, ?_⟩
    rw [upd_ne pL, upd_same]
def sp_first_hit : Sp := fun vs H Q _ => ∃ st sp w n : Int, vs = [.int st, .int sp, .int w, .int n] ∧ 0 < w ∧ w < 2 ^ 1000 ∧ 1 ≤ n ∧ ∀ H', Same H H' → Q (oV (firstHit st sp w n)) H'
theorem h_first_hit (T : TF K mg "first_hit" s_first_hit) (G_divided_up : Has P w K mg base 1 "divided_up" ["number", "by"] sp_divided_up) (G_climbed : Has P w K mg base 2 "climbed" ["levels", "hit"] (sp_climbed K)) :
    Has P w K mg base 3 "first_hit" ["start", "step", "whole", "many"] sp_first_hit := by
  refine T.has sc_first_hit (fun _ _ _ _ _ _ us hl => match us, hl with | [_, _, _, _], _ => rfl) (fun vs H Q E h => ?_) (fun f cdv A outer s H vs Q E hr h => ?_)
  · obtain ⟨a, b, c, d, rfl, _⟩ := h
    rfl
  obtain ⟨st, sp, w, n, rfl, hw, hw2, hn, q⟩ := h
  refine ⟨_, (pss_cons (ps_if (pt_cmpR op_lt (pe_op op_mod (pv 0) (pv 2)) (pv 3) (nomark _)) (pss_one (ps_ret pe_int)) pss_nil) (pss_cons (ps_set (i := 1) sc_first_hit.nd rfl (Or.inl rfl) (pe_op op_mod (pv 1) (pv 2))) (pss_cons (ps_set (i := 4) sc_first_hit.nd rfl (Or.inl rfl) (pe_op op_mod (pe_un un_neg (pv 0)) (pv 2))) (pss_cons (ps_set (i := 5) sc_first_hit.nd rfl (Or.inl rfl) (pe_lst pa_nil)) (pss_cons (ps_while PassesOwn.never (pt_cmpR op_ne (pv 1) pe_int (nomark _)) (pss_cons (ps_set (i := 6) sc_first_hit.nd rfl (Or.inl rfl) (pe_op op_sub (pe_op op_add (pv 4) (pv 3)) pe_int)) (pss_cons (ps_set (i := 7) sc_first_hit.nd rfl (Or.inl rfl) (pe_def (G_divided_up.mono (by first | decide | omega)) hr (pa_cons (pv 4) (pa_cons (pv 1) pa_nil)))) (pss_cons (ps_if (pt_cmpR op_le (pe_op op_mulA (pv 1) (pv 7)) (pv 6) (nomark _)) (pss_one (ps_ret (pe_def (G_climbed.mono (by first | decide | omega)) hr (pa_cons (pv 5) (pa_cons (pv 7) pa_nil))))) pss_nil) (pss_cons (ps_expr (pe_bm PySem.F.plainAttrs_list PySem.F.slot_list_append PySem.F.type_list_append mt_append (pv 5) (pa_cons (pe_tup (pa_cons (pv 2) (pa_cons (pv 1) (pa_cons (pv 4) pa_nil)))) pa_nil))) (pss_cons (ps_set (i := 4) sc_first_hit.nd rfl (Or.inl rfl) (pe_op op_mod (pe_un un_neg (pv 6)) (pv 1))) (pss_cons (ps_set (i := 8) sc_first_hit.nd rfl (Or.inl rfl) (pe_op op_mod (pv 2) (pv 1))) (pss_cons (ps_set (i := 2) sc_first_hit.nd rfl (Or.inl rfl) (pv 1)) (pss_one (ps_set (i := 1) sc_first_hit.nd rfl (Or.inl rfl) (pv 8))))))))))) (pss_one (ps_ret pe_non))))))), ?_⟩
  walk_at "wp"
  refine ⟨hw, fun c => ?_, fun c => ?_⟩
  · have e : firstHit st sp w n = some 0 := by unfold firstHit; rw [if_pos c]
    have := q H (Same.refl H)
    rw [e] at this
    exact this
  have L0 := lvl0 (sp := sp) hw hn c
  have ef : firstHit st sp w n = hitF w (sp % w) ((-st) % w) n := by unfold firstHit; rw [if_neg c]
  rw [ef] at q
  refine ⟨hw, hw, fun L hL => ?_⟩
  obtain ⟨W, hW⟩ : ∃ W : Nat → St → Hp → Prop, W = fun m σ H' => ∃ (lv : List T3) (w' a lo : Int) (xs : List V) (o1 o2 o3 : Option V), σ = [some (.int st), some (.int a), some (.int w'), some (.int n), some (.int lo), some (.ref L), o1, o2, o3] ∧ Same H H' ∧ H' L = some (.lst xs) ∧ Tups H' xs lv ∧
    Down n w (sp % w) ((-st) % w) lv w' a lo ∧ m = a.toNat := ⟨_, rfl⟩
  refine ⟨W, ⟨(sp % w).toNat, by rw [hW]; exact ⟨[], w, sp % w, (-st) % w, [], none, none, none, rfl, same_new hL _, upd_same, ⟨rfl, fun i t e => by simp at e⟩, .top, rfl⟩⟩, fun m σ H' z => ?_⟩
  rw [hW] at z
  obtain ⟨lv, w', a, lo, xs, o1, o2, o3, rfl, g, hx, ht, dn, rfl⟩ := z
  obtain ⟨lv1, b1, b2⟩ := dn.lvl L0
  have aw := lv1.aw
  have a0 := lv1.a0
  walk_at "wp"
  refine ⟨fun c1 => ?_, fun c1 => ?_⟩
  · have ap : 0 < a := by omega
    have sh := dn.short L0 1000 (by omega) ap
    have c2 := cdiv_spec (n := lo) ap
    have l1 := lv1.l1
    have l2 := lv1.l2
    have c0 := cdiv_nonneg (n := lo) ap (by omega)
    have cl : cdiv lo a ≤ lo := cdiv_le ap (by
      have := Int.mul_le_mul_of_nonneg_right (show 1 ≤ a by omega) (show 0 ≤ lo by omega)
      omega)
    refine ⟨_, fun _ _ h => h, ?_⟩
    walk_at "wp"
    refine ⟨_, _, rfl, ap, by omega, ?_⟩
    walk_at "wp"
    refine ⟨mok 1000 1000 (by omega) (by omega) (by decide), fun c3 => ?_, fun c3 => ?_⟩
    · have eh := hitF_here (w := w') ap (n := n) (by omega)
      obtain ⟨e1, e2⟩ := dn.hit L0 eh
      refine ⟨L, xs, lv, _, rfl, SqL.of hx, ht, fun t htm => ?_, fun i => ?_, ?_⟩
      · obtain ⟨t1, t2, t3, t4, t5⟩ := b2 t htm
        exact ⟨t1, by omega, by omega, by omega⟩
      · have := e2 i
        omega
      · have := q H' g
        rw [e1] at this
        exact this
    · refine ⟨.inl ⟨rfl, _, SqL.of hx⟩, fun p hp => ?_⟩
      have pL : L ≠ p := ne_of_none hx hp
      refine ⟨_, _, _, rfl, rfl, by rw [upd_ne pL]; exact hx, by rw [ht.1, sizeLine_eq]; omega, ?_⟩
      walk_at "wp"
      have c3' : ¬ a * cdiv lo a ≤ lo + n - 1 := by omega
      have r0 := Int.emod_nonneg w' (show a ≠ 0 by omega)
      have r1 := Int.emod_lt_of_pos w' ap
      refine ⟨ap, ap, (w' % a).toNat, by omega, ?_⟩
      rw [hW]
      refine ⟨lv ++ [(w', a, lo)], a, w' % a, _, _, _, _, _, rfl, ?_, upd_same, ht.snoc hx hp _, dn.go ap c3', rfl⟩
      exact fun b u e => by
        have b1 : b ≠ L := ne_of_none e hL
        have b2 : b ≠ p := ne_of_none (g b u e) hp
        rw [upd_ne b1, upd_ne b2]
        exact g b u e
  · have a00 : a = 0 := by omega
    have e1 := dn.nohit (hitF_none (by omega))
    have := q H' g
    rw [e1] at this
    exact this

theorem awakeB_iff {ws : List T3} {t : Int} : awakeB ws t = true ↔ ∃ u ∈ ws, awP u t := by
  unfold awakeB
  rw [List.any_eq_true]
  refine ⟨fun ⟨u, h, e⟩ => ⟨u, h, by unfold awk at e; exact (of_decide_eq_true e : (t - u.2.1) % u.1 < u.2.2)⟩, fun ⟨u, h, e⟩ => ⟨u, h, by unfold awk; exact decide_eq_true (show (t - u.2.1) % u.1 < u.2.2 from e)⟩⟩
def togB (ws us : List T3) (d t : Int) : Bool := awakeB ws t && awakeB us (t - d)
theorem togB_iff {ws us : List T3} {d t : Int} : togB ws us d t = true ↔ TogP ws us d t := by
  unfold togB TogP
  rw [Bool.and_eq_true, awakeB_iff, awakeB_iff]

def sp_together (K : PySem.W.Frag) : Sp := fun vs H Q _ => ∃ (a b : Addr) (xs ys : List V) (ws us : List T3) (d t : Int), vs = [.ref a, .ref b, .int d, .int t] ∧ SqL K H a xs ∧ Pl H xs ws ∧ SqL K H b ys ∧ Pl H ys us ∧ (∀ u ∈ ws, 1 ≤ u.1) ∧ (∀ u ∈ us, 1 ≤ u.1) ∧ Q (.bl (togB ws us d t)) H
theorem h_together (T : TF K mg "together" s_together) (G_awake : Has P w K mg base 1 "awake" ["plan", "turn"] (sp_awake K)) : Has P w K mg base 2 "together" ["one", "other", "shift", "turn"] (sp_together K) := by
  refine T.has sc_together (fun _ _ _ _ _ _ us hl => match us, hl with | [_, _, _, _], _ => rfl) (fun vs H Q E h => ?_) (fun f cdv A outer s H vs Q E hr h => ?_)
  · obtain ⟨a, b, xs, ys, ws, us, d, t, rfl, _⟩ := h
    rfl
  obtain ⟨a, b, xs, ys, ws, us, d, t, rfl, hS, hP, hS2, hP2, hw, hu, q⟩ := h
  refine ⟨_, (pss_one (ps_ret (pe_and (pe_def (G_awake.mono (by first | decide | omega)) hr (pa_cons (pv 0) (pa_cons (pv 3) pa_nil))) (pe_one (pe_def (G_awake.mono (by first | decide | omega)) hr (pa_cons (pv 1) (pa_cons (pe_op op_sub (pv 3) (pv 2)) pa_nil))))))), ?_⟩
  unfold togB at q
  walk_at "wp"
  refine ⟨_, _, xs, ws, rfl, hS, hP, hw, ?_⟩
  walk_at "wp"
  refine ⟨fun c => ?_, fun c => ?_⟩
  · rw [c, Bool.true_and] at q
    exact ⟨_, _, ys, us, rfl, hS2, hP2, hu, q⟩
  · rw [Bool.not_eq_true] at c
    rw [c, Bool.false_and] at q
    exact q
def sp_next_begin (K : PySem.W.Frag) : Sp := fun vs H Q _ => ∃ (p p2 : Addr) (u v : T3) (t : Int), vs = [.ref p, .ref p2, .int t] ∧ H p = some (tupW u) ∧ H p2 = some (tupW v) ∧ Wk u ∧ Wk v ∧ u.1 < 2 ^ 900 ∧ v.1 < 2 ^ 900 ∧ ∀ H', Same H H' → Q (oV (nbI u v t)) H'
theorem h_next_begin (T : TF K mg "next_begin" s_next_begin) (G_first_hit : Has P w K mg base 3 "first_hit" ["start", "step", "whole", "many"] sp_first_hit) : Has P w K mg base 4 "next_begin" ["waking", "beside", "turn"] (sp_next_begin K) := by
  refine T.has sc_next_begin (fun _ _ _ _ _ _ us hl => match us, hl with | [_, _, _], _ => rfl) (fun vs H Q E h => ?_) (fun f cdv A outer s H vs Q E hr h => ?_)
  · obtain ⟨p, p2, u, v, t, rfl, _⟩ := h
    rfl
  obtain ⟨p, p2, u, v, t, rfl, hp, hp2, hu, hv, u9, v9, q⟩ := h
  refine ⟨_, (pss_cons (ps_set (i := 3) sc_next_begin.nd rfl (Or.inl rfl) (pe_op op_add (pv 2) (pe_op op_mod (pe_op op_sub (pe_ix ix_tup (pv 0) pe_int (fun _ _ => rfl)) (pv 2)) (pe_ix ix_tup (pv 0) pe_int (fun _ _ => rfl))))) (pss_cons (ps_set (i := 4) sc_next_begin.nd rfl (Or.inl rfl) (pe_def (G_first_hit.mono (by first | decide | omega)) hr (pa_cons (pe_op op_sub (pv 3) (pe_ix ix_tup (pv 1) pe_int (fun _ _ => rfl))) (pa_cons (pe_ix ix_tup (pv 0) pe_int (fun _ _ => rfl)) (pa_cons (pe_ix ix_tup (pv 1) pe_int (fun _ _ => rfl)) (pa_cons (pe_ix ix_tup (pv 1) pe_int (fun _ _ => rfl)) pa_nil)))))) (pss_cons (ps_if (pt_cmpR op_isN (pv 4) pe_non (nomark _)) (pss_one (ps_ret pe_non)) pss_nil) (pss_one (ps_ret (pe_op op_add (pv 3) (pe_op op_mulA (pe_ix ix_tup (pv 0) pe_int (fun _ _ => rfl)) (pv 4)))))))), ?_⟩
  have hT : SqT K H p [.int u.1, .int u.2.1, .int u.2.2] := SqT.of hp
  have hT2 : SqT K H p2 [.int v.1, .int v.2.1, .int v.2.2] := SqT.of hp2
  have u0 := hu.1
  have v0 := hv.1
  walk_at "wp"
  refine ⟨_, _, _, .int u.2.1, rfl, rfl, hT, rfl, ?_⟩
  walk_at "wp"
  refine ⟨_, _, _, .int u.1, rfl, rfl, hT, rfl, ?_⟩
  walk_at "wp"
  refine ⟨by omega, ?_⟩
  refine ⟨_, _, _, .int v.2.1, rfl, rfl, hT2, rfl, ?_⟩
  walk_at "wp"
  refine ⟨_, _, _, .int u.1, rfl, rfl, hT, rfl, ?_⟩
  refine ⟨_, _, _, .int v.1, rfl, rfl, hT2, rfl, ?_⟩
  refine ⟨_, _, _, .int v.2.2, rfl, rfl, hT2, rfl, ?_⟩
  refine ⟨_, _, _, _, rfl, by omega, by omega, hv.2.2.2.1, fun H' g => ?_⟩
  have q2 := q H' g
  unfold nbI begI at q2
  have L := firstHit_least (st := t + (u.2.1 - t) % u.1 - v.2.1) (sp := u.1) (w := v.1) (n := v.2.2) (by omega) hv.2.2.2.1
  cases e : firstHit (t + (u.2.1 - t) % u.1 - v.2.1) u.1 v.1 v.2.2 with
  | none =>
    rw [e] at q2
    walk_at "wp"
    exact q2
  | some i =>
    rw [e] at q2 L
    have lt := firstHit_lt_per (by omega) hv.2.2.2.1 e
    have le : v.1 / gcdI v.1 (u.1 % v.1) ≤ v.1 := Int.ediv_le_self _ (by omega)
    have i0 := L.1
    walk_at "wp"
    refine ⟨_, _, _, .int u.1, rfl, rfl, SqT.of (g _ _ hp), rfl, ?_⟩
    walk_at "wp"
    refine ⟨mok 1000 1000 (by omega) (by omega) (by decide), ?_⟩
    exact q2
def sp_next_tog (K : PySem.W.Frag) : Sp := fun vs H Q _ => ∃ (a b : Addr) (xs ys : List V) (ws us : List T3) (d t : Int), vs = [.ref a, .ref b, .int d, .int t] ∧ SqL K H a xs ∧ Pl H xs ws ∧ SqL K H b ys ∧ Pl H ys us ∧ (∀ u ∈ ws, Wk u) ∧ (∀ u ∈ us, Wk u) ∧ (∀ u ∈ ws, u.1 < 2 ^ 900) ∧ (∀ u ∈ us, u.1 < 2 ^ 900) ∧ ws.length ≤ 50 ∧ us.length ≤ 50 ∧
  ∀ (r : Option Int) (H' : Hp), Same H H' → NextOf (TogP ws us d) t r → Q (oV r) H'
theorem cands_take {ws vs : List T3} {t : Int} {i : Nat} {u : T3} (e : ws[i]? = some u) : cands (ws.take (i + 1)) vs t = cands (ws.take i) vs t ++ vs.flatMap fun v => [nbI u v t, nbI v u t] := by
  unfold cands
  rw [List.take_add_one, e, List.flatMap_append]
  simp
def cand1 (u : T3) (vs : List T3) (t : Int) : List (Option Int) := vs.flatMap fun v => [nbI u v t, nbI v u t]
theorem cand1_take {u : T3} {vs : List T3} {t : Int} {i : Nat} {v : T3} (e : vs[i]? = some v) : cand1 u (vs.take (i + 1)) t = cand1 u (vs.take i) t ++ [nbI u v t, nbI v u t] := by
  unfold cand1
  rw [List.take_add_one, e, List.flatMap_append]
  simp
theorem cand1_len (u : T3) (vs : List T3) (t : Int) : (cand1 u vs t).length = 2 * vs.length := by
  unfold cand1
  induction vs with
  | nil => rfl
  | cons v vs ih => rw [List.flatMap_cons, List.length_append, ih]; simp; omega
theorem cands_len (ws vs : List T3) (t : Int) : (cands ws vs t).length = ws.length * (2 * vs.length) := by
  induction ws with
  | nil => unfold cands; simp
  | cons u ws ih =>
    have := cand1_len u vs t
    unfold cands at *
    unfold cand1 at this
    rw [List.flatMap_cons, List.length_append, ih, this, List.length_cons, Nat.add_mul]
    omega
theorem leastIn_none {os : List (Option Int)} (h : os.filterMap id = []) : LeastIn os none := fun y hy => by
  have : y ∈ os.filterMap id := List.mem_filterMap.mpr ⟨some y, hy, rfl⟩
  rw [h] at this
  cases this
theorem leastIn_some {os : List (Option Int)} {M : Int} (h : M ∈ os.filterMap id) (hz : ∀ z ∈ os.filterMap id, M ≤ z) : LeastIn os (some M) := by
  obtain ⟨o, ho, e⟩ := List.mem_filterMap.mp h
  have e' : o = some M := e
  refine ⟨e' ▸ ho, fun y hy => hz y (List.mem_filterMap.mpr ⟨some y, hy, rfl⟩)⟩
theorem comp_somes {K : PySem.W.Frag} {L : Addr} {os : List (Option Int)} {nm : Str} {fr : List Nat} {σ : St} {H : Hp} {Q : VK} {rest : St} (hst : st0 [nm] fr σ = none :: rest) (hL : H L = some (.lst (os.map oV))) (hlen : os.length ≤ 10000)
    (hq : ∀ (D : Addr) (H' : Hp), Same H H' → H' D = some (IL (os.filterMap id)) → Q (.ref D) H') :
    CompW (Itl K L) (gName 0) (tTest (tOp (fun x y H Q => y = .non ∧ Q (.bl (!decide (x = .non))) H) (tVar 0) (tC .non))) (tVar 0) [nm] fr σ H Q := by
  obtain ⟨Sv, hSv⟩ : ∃ Sv : St → Prop, Sv = fun σ => ∃ o, σ = o :: rest := ⟨_, rfl⟩
  obtain ⟨Pv, hPv⟩ : ∃ Pv : Addr → Nat → List V → Hp → Prop, Pv = fun D i ys H2 => H D = none ∧ Same H H2 ∧ ys = ((os.take i).filterMap id).map V.int := ⟨_, rfl⟩
  refine compW_list (xs := os.map oV) Sv Pv (by rw [hSv, hst]; exact ⟨none, rfl⟩) (fun D hD => ?_) (fun D i ys H2 hD h => ?_) (fun D i x ys σ H2 hx hi hs hD hy h => ?_) (fun D ys H2 hD h => ?_)
  · rw [hPv]
    exact ⟨hD, same_new hD _, rfl⟩
  · rw [hPv] at h
    exact SqL.of (h.2.1 _ _ hL)
  · rw [hSv] at hs
    rw [hPv] at h
    obtain ⟨o, rfl⟩ := hs
    obtain ⟨nD, g, rfl⟩ := h
    rw [List.getElem?_map] at hx
    obtain ⟨c, hc, rfl⟩ := Option.map_eq_some_iff.mp hx
    rw [List.length_map] at hi
    cases c with
    | none =>
      walk_at "wp"
      refine ⟨by rw [hSv]; exact ⟨_, rfl⟩, _, hD, by omega, ?_⟩
      rw [hPv]
      refine ⟨nD, g, ?_⟩
      rw [List.take_add_one, hc, List.filterMap_append]
      simp
    | some c =>
      walk_at "wp"
      refine CompP.mk hD hy (by rw [sizeLine_eq]; omega) (by rw [hSv]; exact ⟨_, rfl⟩) (by
        rw [hPv]
        refine ⟨nD, g.write nD _, ?_⟩
        rw [List.take_add_one, hc, List.filterMap_append]
        simp)
  · rw [hPv] at h
    obtain ⟨nD, g, rfl⟩ := h
    rw [List.length_map, List.take_length] at hD
    exact hq D H2 g hD
theorem h_next_together (T : TF K mg "next_together" s_next_together) (m_min : mg "min" = none) (G_together : Has P w K mg base 2 "together" ["one", "other", "shift", "turn"] (sp_together K)) (G_shifted : Has P w K mg base 1 "shifted" ["plan", "by"] (sp_shifted K)) (G_next_begin : Has P w K mg base 4 "next_begin" ["waking", "beside", "turn"] (sp_next_begin K)) :
    Has P w K mg base 5 "next_together" ["one", "other", "shift", "turn"] (sp_next_tog K) := by
  refine T.has sc_next_together (fun _ _ _ _ _ _ us hl => match us, hl with | [_, _, _, _], _ => rfl) (fun vs H Q E h => ?_) (fun f cdv A outer s H vs Q E hr h => ?_)
  · obtain ⟨a, b, xs, ys, ws, us, d, t, rfl, _⟩ := h
    rfl
  obtain ⟨a, b, xs, ys, ws, us, d, t, rfl, hS, hP, hS2, hP2, hw, hu, w9, u9, lw, lu, q⟩ := h
  refine ⟨_, (pss_cons (ps_if (pt_val (pe_def (G_together.mono (by first | decide | omega)) hr (pa_cons (pv 0) (pa_cons (pv 1) (pa_cons (pv 2) (pa_cons (pv 3) pa_nil))))) (fun _ => rfl)) (pss_one (ps_ret (pv 3))) pss_nil) (pss_cons (ps_set (i := 4) sc_next_together.nd rfl (Or.inl rfl) (pe_lst pa_nil)) (pss_cons (ps_for PassesOwn.never rfl (pi_list (pv 0)) (pg_name (i := 5) sc_next_together.nd rfl (Or.inl rfl)) (pss_one (ps_for PassesOwn.never rfl (pi_list (pe_def (G_shifted.mono (by first | decide | omega)) hr (pa_cons (pv 1) (pa_cons (pv 2) pa_nil)))) (pg_name (i := 6) sc_next_together.nd rfl (Or.inl rfl)) (pss_cons (ps_expr (pe_bm PySem.F.plainAttrs_list PySem.F.slot_list_append PySem.F.type_list_append mt_append (pv 4) (pa_cons (pe_def (G_next_begin.mono (by first | decide | omega)) hr (pa_cons (pv 5) (pa_cons (pv 6) (pa_cons (pv 3) pa_nil)))) pa_nil))) (pss_one (ps_expr (pe_bm PySem.F.plainAttrs_list PySem.F.slot_list_append PySem.F.type_list_append mt_append (pv 4) (pa_cons (pe_def (G_next_begin.mono (by first | decide | omega)) hr (pa_cons (pv 6) (pa_cons (pv 5) (pa_cons (pv 3) pa_nil)))) pa_nil)))))))) (pss_one (ps_ret (pe_minD rfl rfl m_min (pe_comp (CompSc.none (own := ["found"]) (by decide +kernel) (by decide +kernel) rfl (by decide +kernel)) rfl (pi_list (pv 4)) (fun _ _ _ => (pg_name (i := 0) (show (["found"] : List Str).Nodup from by decide +kernel) rfl (Or.inl rfl) (Or.inr rfl))) (fun _ _ _ => pts_one (pt_cmpR op_notN (pv 0) pe_non (nomark _))) (fun _ _ _ => (pv 0))) pe_non)))))), ?_⟩
  have w1 : ∀ u ∈ ws, 1 ≤ u.1 := fun u h => (hw u h).1
  have u1 : ∀ u ∈ us, 1 ≤ u.1 := fun u h => (hu u h).1
  walk_at "wp"
  refine ⟨_, _, xs, ys, ws, us, d, t, rfl, hS, hP, hS2, hP2, w1, u1, ?_⟩
  walk_at "wp"
  refine ⟨fun c => q (some t) H (Same.refl H) (next_here (togB_iff.mp c)), fun c => ?_⟩
  have nt : ¬ TogP ws us d t := fun z => c (togB_iff.mpr z)
  intro L hL
  have g0 := same_new hL (.lst [])
  refine ⟨⟨_, g0.seq hS⟩, ?_⟩
  obtain ⟨W, hW⟩ : ∃ W : Nat → St → Hp → Prop, W = fun i σ H' => ∃ (o1 o2 : Option V), σ = [some (.ref a), some (.ref b), some (.int d), some (.int t), some (.ref L), o1, o2] ∧ Same H H' ∧ H' L = some (.lst ((cands (ws.take i) (us.map (shT d)) t).map oV)) := ⟨_, rfl⟩
  refine forW_list (xs := xs) W ?_ (fun i σ H' _ z => ?_) (fun i x σ H' hx z => ?_) (fun σ H' z => ?_)
  · rw [hW]
    exact ⟨none, none, rfl, g0, upd_same⟩
  · rw [hW] at z
    obtain ⟨_, _, _, g, _⟩ := z
    exact g.seq hS
  · rw [hW] at z
    obtain ⟨o1, o2, rfl, g, hL2⟩ := z
    obtain ⟨p, u, e1, rfl, e3⟩ := hP.at hx
    have mu := List.mem_of_getElem? e1
    walk_at "wp"
    refine ⟨_, _, ys, us, rfl, g.seq hS2, hP2.same g, u1, by omega, fun D zs H2 g2 nD hD hZ => ?_⟩
    have nLD : L ≠ D := fun e => by rw [e] at hL2; rw [hL2] at nD; cases nD
    refine ⟨D, rfl, ⟨_, SqL.of hD⟩, ?_⟩
    obtain ⟨Z, hZz⟩ : ∃ Z : Nat → St → Hp → Prop, Z = fun j σ H' => ∃ (o2 : Option V), σ = [some (.ref a), some (.ref b), some (.int d), some (.int t), some (.ref L), some (.ref p), o2] ∧ Same H H' ∧ Pl H' zs (us.map (shT d)) ∧ H' D = some (.lst zs) ∧ H' L = some (.lst ((cands (ws.take i) (us.map (shT d)) t ++ cand1 u ((us.map (shT d)).take j) t).map oV)) := ⟨_, rfl⟩
    refine forW_list (xs := zs) Z ?_ (fun j σ H' _ z => ?_) (fun j x σ H' hx z => ?_) (fun σ H' z => ?_)
    · rw [hZz]
      exact ⟨_, rfl, g.trans g2, hZ, hD, by simpa [cand1] using g2 _ _ hL2⟩
    · rw [hZz] at z
      obtain ⟨_, _, _, _, hD, _⟩ := z
      exact SqL.of hD
    · rw [hZz] at z
      obtain ⟨o2, rfl, gz, hZ3, hD3, hL3⟩ := z
      obtain ⟨p2, v, f1, rfl, f3⟩ := hZ3.at hx
      have mv := List.mem_of_getElem? f1
      obtain ⟨v0, mv0, ev⟩ := List.mem_map.mp mv
      have hv : Wk v := ev ▸ shT_wk d (hu v0 mv0)
      have v9 : v.1 < 2 ^ 900 := by rw [← ev]; exact u9 v0 mv0
      have hj := (List.getElem?_eq_some_iff.mp f1).1
      rw [List.length_map] at hj
      have hi := (List.getElem?_eq_some_iff.mp e1).1
      have lc : (cands (ws.take i) (us.map (shT d)) t ++ cand1 u ((us.map (shT d)).take j) t).length ≤ 5000 := by
        rw [List.length_append, cands_len, cand1_len, List.length_take, List.length_take, List.length_map]
        have := Nat.mul_le_mul (show min i ws.length ≤ 49 by omega) (show 2 * us.length ≤ 100 by omega)
        omega
      walk_at "wp"
      refine ⟨.inl ⟨rfl, _, SqL.of hL3⟩, p, p2, u, v, t, rfl, gz _ _ e3, f3, hw u mu, hv, w9 u mu, v9, fun H4 g4 => ?_⟩
      refine ⟨L, _, _, rfl, rfl, g4 _ _ hL3, by rw [sizeLine_eq, List.length_map]; omega, ?_⟩
      have f3' := upd_tup (D := L) (o := .lst ((cands (ws.take i) (us.map (shT d)) t ++ cand1 u ((us.map (shT d)).take j) t).map oV ++ [oV (nbI u v t)])) (g4 _ _ hL3) (g4 _ _ f3)
      have e3' := upd_tup (D := L) (o := .lst ((cands (ws.take i) (us.map (shT d)) t ++ cand1 u ((us.map (shT d)).take j) t).map oV ++ [oV (nbI u v t)])) (g4 _ _ hL3) ((gz.trans g4) _ _ e3)
      refine ⟨.inl ⟨rfl, _, SqL.of upd_same⟩, p2, p, v, u, t, rfl, f3', e3', hv, hw u mu, v9, w9 u mu, fun H5 g5 => ?_⟩
      refine ⟨L, _, _, rfl, rfl, g5 _ _ upd_same, by rw [sizeLine_eq, List.length_append, List.length_map, List.length_singleton]; omega, ?_⟩
      rw [hZz]
      refine ⟨_, rfl, (((gz.trans g4).write hL _).trans g5).write hL _, ?_, ?_, ?_⟩
      · exact (((hZ3.same g4).upd (g4 _ _ hL3)).same g5).upd (g5 _ _ upd_same)
      · rw [upd_ne (Ne.symm nLD)]
        exact g5 _ _ ((upd_ne (Ne.symm nLD)).trans (g4 _ _ hD3))
      · rw [upd_same, cand1_take f1]
        simp
    · rw [hZz] at z
      obtain ⟨o2, rfl, gz, hZ3, hD3, hL3⟩ := z
      rw [hZ3.1, List.take_length] at hL3
      rw [hW]
      refine ⟨_, _, rfl, gz, ?_⟩
      rw [cands_take e1]
      exact hL3
  · rw [hW] at z
    obtain ⟨o1, o2, rfl, g, hL2⟩ := z
    rw [hP.1, List.take_length] at hL2
    have lc : (cands ws (us.map (shT d)) t).length ≤ 5000 := by
      rw [cands_len, List.length_map]
      have := Nat.mul_le_mul lw (show 2 * us.length ≤ 100 by omega)
      omega
    walk_at "wp"
    refine ⟨⟨_, SqL.of hL2⟩, comp_somes (rest := []) rfl hL2 (by omega) fun D H2 g2 hD => ?_⟩
    walk_at "wp"
    refine ⟨D, _, rfl, SqL.of hD, fun e => q none _ (g.trans g2) (next_of_cands hw hu nt (leastIn_none e)), fun M hM hz => q (some M) _ (g.trans g2) (next_of_cands hw hu nt (leastIn_some hM hz))⟩

def prd (ws us : List T3) (k : Int) : Int := lcms [(ws.getD (k / (us.length : Int)).toNat (1, 0, 1)).1, (us.getD (k % (us.length : Int)).toNat (1, 0, 1)).1]
def IsMx (f : Int → Int) (ns : List Int) (M : Int) : Prop := (∃ k ∈ ns, M = f k) ∧ ∀ k ∈ ns, f k ≤ M
theorem IsMx.uniq {f : Int → Int} {ns : List Int} {M N : Int} (h : IsMx f ns M) (k : IsMx f ns N) : M = N := by
  obtain ⟨⟨a, ha, rfl⟩, h2⟩ := h
  obtain ⟨⟨b, hb, rfl⟩, k2⟩ := k
  have := h2 b hb
  have := k2 a ha
  omega
mutual
theorem rightB_nm {ws : List T3} : ∀ {s r : Int} {p : Pap}, rightB ws s r p = true → (∀ k ∈ p.nm, 0 ≤ k ∧ k < ws.length) ∧ p.nm ≠ []
  | s, r, .inn k, h => by
    simp only [rightB, Bool.and_eq_true, decide_eq_true_eq] at h
    refine ⟨fun j hj => ?_, by simp [Pap.nm]⟩
    rw [show j = k from List.mem_singleton.mp hj]
    exact ⟨h.1, h.2.1⟩
  | s, r, .par b ps, h => by
    simp only [rightB, Bool.and_eq_true, decide_eq_true_eq] at h
    exact rightsB_nm h.2.2 (fun e => by rw [e] at h; simp at h; omega)
theorem rightsB_nm {ws : List T3} : ∀ {s r b : Int} {c : Nat} {ps : List Pap}, rightsB ws s r b c ps = true → ps ≠ [] → (∀ k ∈ Pap.nms ps, 0 ≤ k ∧ k < ws.length) ∧ Pap.nms ps ≠ []
  | s, r, b, c, [], h, ne => absurd rfl ne
  | s, r, b, c, p :: ps, h, ne => by
    simp only [rightsB, Bool.and_eq_true] at h
    have h1 := rightB_nm h.1
    refine ⟨fun k hk => ?_, by simp [Pap.nms, h1.2]⟩
    rcases List.mem_append.mp hk with z | z
    · exact h1.1 k z
    · by_cases e : ps = []
      · rw [e] at z
        exact nomatch z
      · exact (rightsB_nm h.2 e).1 k z
end
def sp_pair_of (K : PySem.W.Frag) : Sp := fun vs H Q _ => ∃ (v : V) (b : Addr) (ys : List V) (k : Int), vs = [v, .ref b, .int k] ∧ SqL K H b ys ∧ 0 < ys.length ∧ ys.length ≤ 1000 ∧ ∀ D, H D = none → Q (.ref D) (upd H D (.tup [.int (k / ys.length), .int (k % ys.length)]))
theorem h_pair_of (T : TF K mg "pair_of" s_pair_of) (m_len : mg "len" = none) : Has P w K mg base 1 "pair_of" ["one", "other", "k"] (sp_pair_of K) := by
  refine T.has sc_pair_of (fun _ _ _ _ _ _ us hl => match us, hl with | [_, _, _], _ => rfl) (fun vs H Q E h => ?_) (fun f cdv A outer s H vs Q E hr h => ?_)
  · obtain ⟨v, b, ys, k, rfl, _⟩ := h
    rfl
  obtain ⟨v, b, ys, k, rfl, hS, l0, l1, q⟩ := h
  refine ⟨_, (pss_one (ps_ret (pe_tup (pa_cons (pe_op op_fdivA (pv 2) (pe_callB call_len_seq rfl m_len PySem.boot_len (pa_cons (pv 1) pa_nil))) (pa_cons (pe_op op_mod (pv 2) (pe_callB call_len_seq rfl m_len PySem.boot_len (pa_cons (pv 1) pa_nil))) pa_nil))))), ?_⟩
  walk_at "wp"
  refine ⟨_, _, rfl, .inl hS, divA 20 (by omega) (by omega) (by decide), _, _, rfl, .inl hS, by omega, q⟩
def sp_pair_round (K : PySem.W.Frag) : Sp := fun vs H Q _ => ∃ (a b : Addr) (xs ys : List V) (ws us : List T3) (k : Int), vs = [.ref a, .ref b, .int k] ∧ SqL K H a xs ∧ Pl H xs ws ∧ SqL K H b ys ∧ Pl H ys us ∧ (∀ u ∈ ws, 1 ≤ u.1 ∧ u.1 ≤ 2 ^ 1000) ∧ (∀ u ∈ us, 1 ≤ u.1 ∧ u.1 ≤ 2 ^ 1000) ∧ us.length ≤ 1000 ∧ 0 ≤ k ∧ k < ws.length * us.length ∧ ∀ H', Same H H' → Q (.int (prd ws us k)) H'
theorem h_pair_round (T : TF K mg "pair_round" s_pair_round) (G_pair_of : Has P w K mg base 1 "pair_of" ["one", "other", "k"] (sp_pair_of K)) (G_least_round : Has P w K mg base 2 "least_round" ["numbers"] (sp_least_round K)) : Has P w K mg base 3 "pair_round" ["one", "other", "k"] (sp_pair_round K) := by
  refine T.has sc_pair_round (fun _ _ _ _ _ _ us hl => match us, hl with | [_, _, _], _ => rfl) (fun vs H Q E h => ?_) (fun f cdv A outer s H vs Q E hr h => ?_)
  · obtain ⟨a, b, xs, ys, ws, us, k, rfl, _⟩ := h
    rfl
  obtain ⟨a, b, xs, ys, ws, us, k, rfl, hS, hP, hS2, hP2, hw, hu, lu, k0, k1, q⟩ := h
  refine ⟨_, (pss_cons (ps_set (i := 3) sc_pair_round.nd rfl (Or.inl rfl) (pe_def (G_pair_of.mono (by first | decide | omega)) hr (pa_cons (pv 0) (pa_cons (pv 1) (pa_cons (pv 2) pa_nil))))) (pss_one (ps_ret (pe_def (G_least_round.mono (by first | decide | omega)) hr (pa_cons (pe_lst (pa_cons (pe_ix ix_tup (pe_ix ix_list (pv 0) (pe_ix ix_tup (pv 3) pe_int (fun _ _ => rfl)) (fun _ _ => rfl)) pe_int (fun _ _ => rfl)) (pa_cons (pe_ix ix_tup (pe_ix ix_list (pv 1) (pe_ix ix_tup (pv 3) pe_int (fun _ _ => rfl)) (fun _ _ => rfl)) pe_int (fun _ _ => rfl)) pa_nil))) pa_nil))))), ?_⟩
  have ul : 0 < us.length := by
    rcases Nat.eq_zero_or_pos us.length with z | z
    · rw [z] at k1
      simp at k1
      omega
    · exact z
  walk_at "wp"
  have ly := hP2.1
  refine ⟨_, b, ys, k, rfl, hS2, by omega, by omega, fun D nD => ?_⟩
  rw [ly]
  have g1 := same_new nD (.tup [.int (k / us.length), .int (k % us.length)])
  have hD := upd_same (H := H) (a := D) (o := .tup [.int (k / us.length), .int (k % us.length)])
  generalize upd H D (.tup [.int (k / us.length), .int (k % us.length)]) = H1 at g1 hD ⊢
  have q0 : 0 ≤ k / (us.length : Int) := Int.ediv_nonneg k0 (by omega)
  have q1 : k / (us.length : Int) < ws.length := Int.ediv_lt_of_lt_mul (by omega) k1
  have r0 := Int.emod_nonneg k (show (us.length : Int) ≠ 0 by omega)
  have r1 := Int.emod_lt_of_pos k (show (0 : Int) < us.length by omega)
  obtain ⟨p1, t1, e1, f1, m1, z1⟩ := (hP.same g1).ix q0 q1
  obtain ⟨p2, t2, e2, f2, m2, z2⟩ := (hP2.same g1).ix r0 r1
  refine ⟨D, _, _, _, rfl, rfl, SqT.of hD, atI_nat (j := 0) rfl, rIxL_mk (g1.seq hS) e1 ⟨p1, _, _, _, rfl, rfl, SqT.of z1, atI_nat (j := 0) rfl, D, _, _, _, rfl, rfl, SqT.of hD, atI_nat (j := 1) rfl, rIxL_mk (g1.seq hS2) e2 ⟨p2, _, _, _, rfl, rfl, SqT.of z2, atI_nat (j := 0) rfl, fun L nL => ?_⟩⟩⟩
  refine ⟨L, [t1.1, t2.1], rfl, SqL.of upd_same, by simp, fun z hz => ?_, ?_⟩
  · simp only [List.mem_cons, List.not_mem_nil, or_false] at hz
    rcases hz with rfl | rfl
    · exact hw t1 m1
    · exact hu t2 m2
  · have := q _ (g1.trans (same_new nL (.lst [.int t1.1, .int t2.1])))
    unfold prd at this
    rw [List.getD_eq_getElem?_getD, f1, List.getD_eq_getElem?_getD, f2] at this
    exact this
def sp_paper_wait (K : PySem.W.Frag) (d : Nat) : Sp := fun vs H Q _ => ∃ (a b : Addr) (v : V) (xs ys : List V) (ws us : List T3) (p : Pap), vs = [.ref a, .ref b, v] ∧ SqL K H a xs ∧ Pl H xs ws ∧ SqL K H b ys ∧ Pl H ys us ∧ (∀ u ∈ ws, Wk u ∧ u.1 ≤ 2 ^ 1000) ∧ (∀ u ∈ us, Wk u ∧ u.1 ≤ 2 ^ 1000) ∧ ws.length ≤ 100 ∧ us.length ≤ 100 ∧ PapIn K anyL H v p ∧ p.dep < d ∧ p.kn < 64 ∧ rightB (shs ws us) 1 0 p = true ∧ ∀ M H', Same H H' → IsMx (prd ws us) p.nm M → Q (.int M) H'
theorem h_paper_wait {d : Nat} (T : TF K mg "paper_wait" s_paper_wait) (m_max : mg "max" = none) (m_set : mg "set" = none) (m_sorted : mg "sorted" = none) (G_lets_meet : Has P w K mg base (d + 5) "lets_meet" ["one", "other", "paper"] (sp_lets_meet K d)) (G_paper_names : Has P w K mg base (d + 1) "paper_names" ["paper"] (sp_names K d)) (G_pair_round : Has P w K mg base 3 "pair_round" ["one", "other", "k"] (sp_pair_round K)) : Has P w K mg base (d + 6) "paper_wait" ["one", "other", "paper"] (sp_paper_wait K d) := by
  refine T.has sc_paper_wait (fun _ _ _ _ _ _ us hl => match us, hl with | [_, _, _], _ => rfl) (fun vs H Q E h => ?_) (fun f cdv A outer s H vs Q E hr h => ?_)
  · obtain ⟨a, b, v, xs, ys, ws, us, p, rfl, _⟩ := h
    rfl
  obtain ⟨a, b, v, xs, ys, ws, us, p, rfl, hS, hP, hS2, hP2, hw, hu, lw, lu, hv, hd, hk, hr2, q⟩ := h
  refine ⟨_, (pss_cons (ps_if (pt_not (pt_val (pe_def (G_lets_meet.mono (by first | decide | omega)) hr (pa_cons (pv 0) (pa_cons (pv 1) (pa_cons (pv 2) pa_nil)))) (fun _ => rfl))) (pss_one ps_never) pss_nil) (pss_one (ps_ret (pe_callB (call_maxI rfl) rfl m_max (by decide +kernel) (pa_cons (pe_comp (CompSc.capt (own := ["k"]) (capt := ["other", "one"]) (fr := [1, 0]) rfl ⟨rfl, rfl, rfl, rfl, rfl, ⟨rfl, rfl, rfl, rfl, rfl, trivial⟩⟩ (by decide +kernel) (by decide +kernel) rfl (by decide +kernel)) rfl (pi_list (pe_callB (call_sortedI rfl) rfl m_sorted (by decide +kernel) (pa_cons (pe_callTy (call_setI rfl) rfl m_set (by decide +kernel) (pa_cons (pe_def (G_paper_names.mono (by first | decide | omega)) hr (pa_cons (pv 2) pa_nil)) pa_nil)) pa_nil))) (fun _ _ _ => (pg_name (i := 0) (show (["k", "other", "one"] : List Str).Nodup from by decide +kernel) rfl (Or.inl rfl) (Or.inr rfl))) (fun _ _ _ => pts_nil) (fun _ _ _ => (pe_def (G_pair_round.mono (by first | decide | omega)) hr (pa_cons (pv 2) (pa_cons (pv 1) (pa_cons (pv 0) pa_nil)))))) pa_nil))))), ?_⟩
  walk_at "wp"
  refine ⟨a, b, v, xs, ys, ws, us, p, rfl, hS, hP, hS2, hP2, fun u h => (hw u h).1, fun u h => (hu u h).1, lw, lu, hv, hd, fun H1 g1 => ?_⟩
  rw [hr2]
  walk_at "wp"
  refine ⟨v, p, rfl, hv.mono g1, hd, by omega, fun L H2 g2 nL hL => ?_⟩
  have nl := p.nm_len
  have G2 := g1.trans g2
  refine ⟨L, p.nm, rfl, SqL.of hL, by omega, fun S f1 n nS hn hf => ?_⟩
  generalize (cxOf CX0 P w K mg base _ _ _ f cdv A outer s H E).prog = Pr
  generalize (cxOf CX0 P w K mg base _ _ _ f cdv A outer s H E).w = Wo
  refine ⟨S, f1, n, rfl, upd_same, by omega, fun D ns nD hl hm _ => ?_⟩
  have G3 := (G2.trans (same_new nS (setO Pr Wo S f1 n))).trans (same_new nD (.lst (ns.map V.int)))
  have hD := upd_same (H := upd H2 S (setO Pr Wo S f1 n)) (a := D) (o := .lst (ns.map V.int))
  generalize upd (upd H2 S (setO Pr Wo S f1 n)) D (.lst (ns.map V.int)) = H3 at G3 hD ⊢
  have rn := rightB_nm hr2
  rw [shs_len] at rn
  have hns : ∀ k, k ∈ ns ↔ k ∈ p.nm := fun k => (hm k).symm.trans (hf k)
  have nsl : ns.length ≤ 64 := by omega
  refine ⟨⟨_, SqL.of hD⟩, ?_⟩
  obtain ⟨Sv, hSv⟩ : ∃ Sv : St → Prop, Sv = fun σ => ∃ o1, σ = [o1, some (.ref b), some (.ref a)] := ⟨_, rfl⟩
  obtain ⟨Pv, hPv⟩ : ∃ Pv : Addr → Nat → List V → Hp → Prop, Pv = fun D2 i ys H4 => H3 D2 = none ∧ Same H3 H4 ∧ ys = ((ns.take i).map (prd ws us)).map V.int := ⟨_, rfl⟩
  refine compW_list (xs := ns.map V.int) Sv Pv (by rw [hSv]; exact ⟨none, rfl⟩) (fun D2 hD2 => ?_) (fun D2 i ys H4 hD2 h => ?_) (fun D2 i x ys σ H4 hx hi hs hD2 hy h => ?_) (fun D2 ys H4 hD2 h => ?_)
  · rw [hPv]
    exact ⟨hD2, same_new hD2 _, rfl⟩
  · rw [hPv] at h
    exact SqL.of (h.2.1 _ _ hD)
  · rw [hSv] at hs
    rw [hPv] at h
    obtain ⟨o1, rfl⟩ := hs
    obtain ⟨nD2, g, rfl⟩ := h
    rw [List.getElem?_map] at hx
    obtain ⟨k, hn, rfl⟩ := Option.map_eq_some_iff.mp hx
    rw [List.length_map] at hi
    have kb := rn.1 k ((hns k).mp (List.mem_of_getElem? hn))
    have G := G3.trans g
    walk_at "wp"
    refine ⟨a, b, xs, _, ws, us, k, rfl, G.seq hS, hP.same G, G.seq hS2, hP2.same G, fun u h => ⟨(hw u h).1.1, (hw u h).2⟩, fun u h => ⟨(hu u h).1.1, (hu u h).2⟩, by omega, kb.1, by rw [← Int.natCast_mul]; exact kb.2, fun H5 g5 => ?_⟩
    have hD3 := g5 _ _ hD2
    refine CompP.mk hD3 hy (by rw [sizeLine_eq]; omega) (by rw [hSv]; exact ⟨_, rfl⟩) (by
      rw [hPv]
      refine ⟨nD2, (g.trans g5).write nD2 _, ?_⟩
      rw [List.take_add_one, hn]
      simp)
  · rw [hPv] at h
    obtain ⟨nD2, g, rfl⟩ := h
    rw [List.length_map, List.take_length] at hD2
    have nne : ns ≠ [] := fun e => by
      obtain ⟨k, hk⟩ := List.exists_mem_of_ne_nil _ rn.2
      have := (hns k).mpr hk
      rw [e] at this
      exact nomatch this
    refine ⟨D2, ns.map (prd ws us), rfl, SqL.of hD2, by simpa using nne, fun M hM1 hM2 => q M _ (G3.trans g) ⟨?_, fun k hk => hM2 _ (List.mem_map.mpr ⟨k, (hns k).mpr hk, rfl⟩)⟩⟩
    obtain ⟨k, hk, rfl⟩ := List.mem_map.mp hM1
    exact ⟨k, (hns k).mp hk, rfl⟩
def sp_grid_plan : Sp := fun vs H Q _ => ∃ n : Int, vs = [.int n] ∧ 1 ≤ n ∧ n < 2 ^ 400 ∧ ∀ (D : Addr) (xs : List V) (H' : Hp), Same H H' → H D = none → H' D = some (.lst xs) → Pl H' xs [(n, 0, 1), (n * n, 0, n)] → Q (.ref D) H'
theorem h_grid_plan (T : TF K mg "grid_plan" s_grid_plan) : Has P w K mg base 1 "grid_plan" ["number"] sp_grid_plan := by
  refine T.has sc_grid_plan (fun _ _ _ _ _ _ us hl => match us, hl with | [_], _ => rfl) (fun vs H Q E h => ?_) (fun f cdv A outer s H vs Q E hr h => ?_)
  · obtain ⟨n, rfl, _⟩ := h
    rfl
  obtain ⟨n, rfl, n1, n2, q⟩ := h
  refine ⟨_, (pss_cons (ps_if (pt_cmpR op_lt (pv 0) pe_int (nomark _)) (pss_one ps_never) pss_nil) (pss_one (ps_ret (pe_lst (pa_cons (pe_tup (pa_cons (pv 0) (pa_cons pe_int (pa_cons pe_int pa_nil)))) (pa_cons (pe_tup (pa_cons (pe_op op_mulA (pv 0) (pv 0)) (pa_cons pe_int (pa_cons (pv 0) pa_nil)))) pa_nil)))))), ?_⟩
  walk_at "wp"
  refine ⟨fun c => by omega, fun _ p1 z1 => ⟨mok 400 400 (by omega) (by omega) (by decide), fun p2 z2 D zD => ?_⟩⟩
  have g1 := same_new z1 (tupW (n, 0, 1))
  have g2 := same_new z2 (tupW (n * n, 0, n))
  have g3 := same_new zD (.lst [.ref p1, .ref p2])
  exact q D [.ref p1, .ref p2] _ ((g1.trans g2).trans g3) ((g1.trans g2).free zD) upd_same ((Pl.one (g3 _ _ (g2 _ _ upd_same))).snoc (g3 _ _ upd_same))

theorem modB (x : Int) {m : Int} (h : 0 < m) : 0 ≤ x % m ∧ x % m < m := ⟨Int.emod_nonneg _ (by omega), Int.emod_lt_of_pos _ h⟩
theorem getD_all {Pz : Int → Prop} {zs : List Int} {i : Nat} (h : ∀ z ∈ zs, Pz z) (hi : i < zs.length) : Pz (zs.getD i 0) := by
  rw [List.getD_eq_getElem?_getD, List.getElem?_eq_getElem hi]
  exact h _ (List.getElem_mem hi)
def sp_cell_at (K : PySem.W.Frag) : Sp := fun vs H Q _ => ∃ (a : Addr) (ns : List Int) (k : Int), vs = [.ref a, .int k] ∧ SqL K H a (ns.map V.int) ∧ 0 ≤ k ∧ Q (.int (ns.getD k.toNat 0)) H
theorem h_law_cell_at (T : TF K mg "_law_cell_at" s_law_cell_at) (m_len : mg "len" = none) : Has P w K mg base 1 "_law_cell_at" ["script", "k"] (sp_cell_at K) := by
  refine T.has sc_law_cell_at (fun _ _ _ _ _ _ us hl => match us, hl with | [_, _], _ => rfl) (fun vs H Q E h => ?_) (fun f cdv A outer s H vs Q E hr h => ?_)
  · obtain ⟨a, ns, k, rfl, _⟩ := h
    rfl
  obtain ⟨a, ns, k, rfl, hS, hk, q⟩ := h
  refine ⟨_, (pss_cons (ps_if (pt_cmpR op_lt (pv 1) (pe_callB call_len_seq rfl m_len PySem.boot_len (pa_cons (pv 0) pa_nil)) (nomark _)) (pss_one (ps_ret (pe_ix ix_list (pv 0) (pv 1) (fun _ _ => rfl)))) pss_nil) (pss_one (ps_ret pe_int))), ?_⟩
  walk_at "wp"
  refine ⟨a, _, rfl, .inl hS, ?_⟩
  walk_at "wp"
  refine ⟨fun c => ?_, fun c => ?_⟩
  · rw [List.length_map] at c
    exact rIxL_mk hS (atI_getD hk c) q
  · rw [List.length_map] at c
    have e : ns.getD k.toNat 0 = 0 := by
      rw [List.getD_eq_getElem?_getD, List.getElem?_eq_none (by omega)]
      rfl
    rw [e] at q
    exact q

def sp_law_divisor : Sp := fun vs H Q _ => ∃ a b : Int, vs = [.int a, .int b] ∧ 0 ≤ a ∧ 0 ≤ b ∧ Q (.int (gcdI a b)) H
theorem h_law_divisor (T : TF K mg "_law_divisor" s_law_divisor) : Has P w K mg base 1 "_law_divisor" ["one", "other"] sp_law_divisor := by
  refine T.has sc_law_divisor (fun _ _ _ _ _ _ us hl => match us, hl with | [_, _], _ => rfl) (fun vs H Q E h => ?_) (fun f cdv A outer s H vs Q E hr h => ?_)
  · obtain ⟨a, b, rfl, _⟩ := h
    rfl
  obtain ⟨a, b, rfl, ha, hb, q⟩ := h
  refine ⟨_, (pss_cons (ps_while PassesOwn.never (pt_cmpR op_gt (pv 1) pe_int (nomark _)) (pss_one (ps_par (i := 0) (j := 1) rfl sc_law_divisor.nd rfl rfl (by decide) rfl rfl (pa_cons (pv 1) (pa_cons (pe_op op_mod (pv 0) (pv 1)) pa_nil)) rfl))) (pss_one (ps_ret (pv 0)))), ?_⟩
  walk_at "wp"
  obtain ⟨W, hW⟩ : ∃ W : Nat → St → Hp → Prop, W = fun m σ H' => ∃ (x y : Int), σ = [some (.int x), some (.int y)] ∧ H' = H ∧ 0 ≤ x ∧ 0 ≤ y ∧ gcdI x y = gcdI a b ∧ m = y.toNat := ⟨_, rfl⟩
  refine ⟨W, ⟨b.toNat, by rw [hW]; exact ⟨a, b, rfl, rfl, ha, hb, rfl, rfl⟩⟩, fun m σ H' h => ?_⟩
  rw [hW] at h
  obtain ⟨x, y, rfl, rfl, hx, hy, e, rfl⟩ := h
  walk_at "wp"
  refine ⟨fun c => ?_, fun c => ?_⟩
  · have m1 := Int.emod_nonneg x (show y ≠ 0 by omega)
    have m2 := Int.emod_lt_of_pos x (show 0 < y by omega)
    refine ⟨_, fun _ _ h => h, ?_⟩
    walk_at "wp"
    refine ⟨by omega, (x % y).toNat, by omega, ?_⟩
    rw [hW]
    exact ⟨y, x % y, rfl, rfl, hy, m1, by rw [gcdI_step, e], rfl⟩
  · have c' : y = 0 := by omega
    subst c'
    rw [gcdI_zero hx] at e
    rw [e]
    exact q

def dg (n : Int) : List Nat := (Str.ofString (toString n)).cps.toList
theorem dg_text (n : Int) : Str.ofString (toString n) = tx (dg n) := (tx_cps _).symm
structure DgOk (n : Int) : Prop where
  all : PySem.NumText.AllDigits (dg n)
  ne : dg n ≠ []
  val : ((PySem.NumText.digitsVal (dg n) : Nat) : Int) = n
  zero : (dg n)[0]? = some 48 → (dg n).length = 1
  len : (dg n).length ≤ 100
  sz : n.natAbs.log2 < 1920
theorem tx_list (l : List Nat) : (tx l).cps.toList = l := by simp [tx]
theorem tx_len (l : List Nat) : (tx l).length = l.length := by simp [tx, Str.length]
theorem dgOk {n : Int} (h0 : 0 ≤ n) (h1 : n < 10 ^ 100) : DgOk n := by
  obtain ⟨l, e, a, b, c, d, f⟩ := num_text h0
  have el : dg n = l := by
    unfold dg
    rw [e, tx_list]
  exact ⟨el ▸ a, el ▸ b, el ▸ c, el ▸ d, by rw [el]; exact f 99 h1, by
    by_cases z : n.natAbs = 0
    · rw [z]; decide
    · refine (Nat.log2_lt z).mpr (Nat.lt_of_lt_of_le (m := 10 ^ 100) (by omega) (by decide +kernel))⟩
theorem blank1 : Str.ofString " " = ⟨#[32]⟩ := by decide +kernel
theorem glu_len {c M : Nat} : ∀ {ps : List (List Nat)}, (∀ p ∈ ps, p.length ≤ M) → (glu c ps).length ≤ ps.length * (M + 1)
  | [], _ => Nat.zero_le _
  | [p], h => by
    have := h p (by simp)
    simp only [glu, List.length_singleton]
    omega
  | p :: q :: r, h => by
    have ih := glu_len (c := c) (ps := q :: r) fun x hx => h x (by simp [hx])
    have := h p (by simp)
    have e : (p :: q :: r).length * (M + 1) = (M + 1) + (q :: r).length * (M + 1) := by rw [List.length_cons, Nat.add_mul]; omega
    rw [e]
    simp only [glu, List.length_append, List.length_cons] at ih ⊢
    omega
theorem glu_all {c : Nat} {Pz : Nat → Prop} (hc : Pz c) : ∀ {ps : List (List Nat)}, (∀ p ∈ ps, ∀ x ∈ p, Pz x) → ∀ x ∈ glu c ps, Pz x
  | [], _, x, hx => nomatch hx
  | [p], h, x, hx => h p (by simp) x hx
  | p :: q :: r, h, x, hx => by
    rcases List.mem_append.mp (show x ∈ p ++ c :: glu c (q :: r) from hx) with z | z
    · exact h p (by simp) x z
    · rcases List.mem_cons.mp z with rfl | z
      · exact hc
      · exact glu_all hc (fun y hy => h y (by simp [hy])) x z
def figB (c : Nat) : Bool := decide (48 ≤ c ∧ c ≤ 57)
def figsB (l : List Nat) : Bool := decide (1 ≤ l.length) && (decide (l.length ≤ 100) && (!(decide (l[0]? = some 48) && decide (1 < l.length)) && l.all figB))
theorem figs_iff {l : List Nat} : figsB l = true ↔ 1 ≤ l.length ∧ l.length ≤ 100 ∧ ¬ (l[0]? = some 48 ∧ 1 < l.length) ∧ ∀ c ∈ l, 48 ≤ c ∧ c ≤ 57 := by
  unfold figsB figB
  simp only [Bool.and_eq_true, decide_eq_true_eq, Bool.not_eq_true', Bool.and_eq_false_iff, decide_eq_false_iff_not, List.all_eq_true]
  constructor
  · rintro ⟨a, b, c, d⟩
    exact ⟨a, b, fun z => c.elim (fun k => k z.1) fun k => k z.2, d⟩
  · rintro ⟨a, b, c, d⟩
    refine ⟨a, b, ?_, d⟩
    by_cases e : l[0]? = some 48
    · exact .inr fun k => c ⟨e, k⟩
    · exact .inl e
def TxOk (l : List Nat) : Prop := l.length ≤ 100000 ∧ ∀ c ∈ l, c < 128
theorem TxOk.asc {l : List Nat} (h : TxOk l) : Asc (tx l) := asc_tx.mpr h.2
theorem fig_in (c : Nat) : (!(Builtin.Str.occurrences (Str.ofString "0123456789") ⟨#[c]⟩ 0 (Str.ofString "0123456789").length 1).isEmpty) = figB c := by
  rw [StrLaws.found_one]
  have el : (Str.ofString "0123456789").cps.toList = [48, 49, 50, 51, 52, 53, 54, 55, 56, 57] := by decide +kernel
  rw [el]
  unfold figB
  rw [decide_eq_decide]
  simp
  omega
theorem zero_tx : Str.ofString "0" = ⟨#[48]⟩ := by decide +kernel
theorem sign_eq {c d : Nat} : (⟨#[c]⟩ : Str) = ⟨#[d]⟩ ↔ c = d := by
  constructor
  · intro h
    injection h with h
    injection h with h
    simpa using h
  · rintro rfl
    rfl
def figM (m : Nat) (l : List Nat) : Bool := decide (1 ≤ l.length) && (decide (l.length ≤ m) && (!(decide (l[0]? = some 48) && decide (1 < l.length)) && l.all figB))
def sp_is_figM : Sp := fun vs H Q _ => ∃ (l : List Nat) (m : Nat), vs = [.str (tx l), .int (m : Int)] ∧ TxOk l ∧ ∀ H', Same H H' → Q (.bl (figM m l)) H'
theorem h_is_figuresM (T : TF K mg "is_figures" s_is_figures) (m_len : mg "len" = none) (m_all : mg "all" = none) (c_FIGURES : CS mg "FIGURES" "0123456789") : Has P w K mg base 1 "is_figures" ["text", "most"] sp_is_figM := by
  refine T.has sc_is_figures (fun _ _ _ _ _ _ us hl => match us, hl with | [_, _], _ => rfl) (fun vs H Q E h => ?_) (fun f cdv A outer s H vs Q E hr h => ?_)
  · obtain ⟨l, m, rfl, _⟩ := h
    rfl
  obtain ⟨l, m, rfl, hl, q⟩ := h
  refine ⟨_, (pss_cons (ps_cut (ps_if (PW.pt (pw_or (pt_cmpR op_lt (pe_callB call_len_str rfl m_len PySem.boot_len (pa_cons (pv 0) pa_nil)) pe_int (nomark _)) (pw_or1 (pt_cmpR op_gt (pe_callB call_len_str rfl m_len PySem.boot_len (pa_cons (pv 0) pa_nil)) (pv 1) (nomark _))))) (pss_one (ps_ret pe_bl)) pss_nil)) (pss_cons (ps_cut (ps_if (PW.pt (pw_and (pt_cmpR op_eq (pe_ix ix_str (pv 0) pe_int (fun _ _ => rfl)) pe_str (nomark _)) (pw_and1 (pt_cmpR op_gt (pe_callB call_len_str rfl m_len PySem.boot_len (pa_cons (pv 0) pa_nil)) pe_int (nomark _))))) (pss_one (ps_ret pe_bl)) pss_nil)) (pss_one (ps_ret (pe_callB (call_allB rfl) rfl m_all (by decide +kernel) (pa_cons (pe_comp (CompSc.none (own := ["sign"]) (by decide +kernel) (by decide +kernel) rfl (by decide +kernel)) rfl (pi_str (pv 0)) (fun _ _ _ => (pg_name (i := 0) (show (["sign"] : List Str).Nodup from by decide +kernel) rfl (Or.inl rfl) (Or.inr rfl))) (fun _ _ _ => pts_nil) (fun _ _ _ => (pe_cmpR op_in_str (pv 0) (pe_cs rfl c_FIGURES) rfl))) pa_nil)))))), ?_⟩
  have ln := hl.1
  have tl := tx_len l
  have no : figM m l = false → Q (.bl false) H := fun e => by
    have := q H (Same.refl H)
    rw [e] at this
    exact this
  walk_at "wp"
  refine ⟨fun σ H' => σ = [some (.str (tx l)), some (.int (m : Int))] ∧ H' = H ∧ 1 ≤ l.length ∧ l.length ≤ m, ?_, ?_⟩
  · walk_at "wp"
    refine ⟨_, rfl, by omega, fun c => no (by unfold figM; rw [decide_eq_false (by omega)]; rfl), fun c => ⟨_, rfl, by omega, fun c2 => no (by unfold figM; rw [decide_eq_false (p := l.length ≤ m) (by omega)]; simp), fun c2 => ⟨by omega, by omega⟩⟩⟩
  rintro σ H' ⟨rfl, rfl, l1, l2⟩
  walk_at "wp"
  refine ⟨fun σ H2 => σ = [some (.str (tx l)), some (.int (m : Int))] ∧ H2 = H' ∧ ¬ (l[0]? = some 48 ∧ 1 < l.length), ?_, ?_⟩
  · walk_at "wp"
    obtain ⟨c0, r0, e0⟩ : ∃ c r, l = c :: r := by
      cases l with
      | nil => simp at l1
      | cons c r => exact ⟨c, r, rfl⟩
    refine ⟨_, _, c0, rfl, rfl, by rw [tl]; show _ ≤ 16777216; omega, by rw [tx_list, e0]; exact atI_nat (j := 0) rfl, rfl, _, rfl, fun z0 => ⟨_, rfl, by omega, fun c => ?_, fun c => ?_⟩, fun z0 => ?_⟩
    · have z1 := V.str.inj (of_decide_eq_true z0)
      rw [zero_tx, sign_eq] at z1
      refine no ?_
      unfold figM
      rw [decide_eq_true (p := l[0]? = some 48) (by rw [e0, z1]; rfl), decide_eq_true (p := 1 < l.length) (by omega)]
      simp
    · exact ⟨rfl, fun z => c (by omega)⟩
    · refine ⟨rfl, fun z => z0 (decide_eq_true ?_)⟩
      have := z.1
      rw [e0] at this
      have e1 : c0 = 48 := by simpa using this
      rw [zero_tx, e1]
  rintro σ H2 ⟨rfl, rfl, l3⟩
  walk_at "wp"
  refine ⟨_, rfl, hl.asc, ?_⟩
  obtain ⟨Sv, hSv⟩ : ∃ Sv : St → Prop, Sv = fun σ => ∃ o1, σ = [o1] := ⟨_, rfl⟩
  obtain ⟨Pv, hPv⟩ : ∃ Pv : Addr → Nat → List V → Hp → Prop, Pv = fun D i ys H3 => H2 D = none ∧ Same H2 H3 ∧ ys = ((l.take i).map figB).map V.bl := ⟨_, rfl⟩
  refine compW_str Sv Pv (by rw [hSv]; exact ⟨none, rfl⟩) (fun D hD => ?_) (fun D i c ys σ H3 hx hs hD hy h => ?_) (fun D ys H3 hD h => ?_)
  · rw [hPv]
    exact ⟨hD, same_new hD _, rfl⟩
  · rw [hSv] at hs
    rw [hPv] at h
    obtain ⟨o1, rfl⟩ := hs
    obtain ⟨nD, g, rfl⟩ := h
    have hx' : l[i]? = some c := by
      rw [← tx_list l, Array.getElem?_toList]
      exact hx
    have hi := (List.getElem?_eq_some_iff.mp hx').1
    walk_at "wp"
    refine ⟨_, _, rfl, rfl, ?_⟩
    rw [fig_in]
    refine CompP.mk hD hy (by rw [sizeLine_eq]; omega) (by rw [hSv]; exact ⟨_, rfl⟩) (by
      rw [hPv]
      refine ⟨nD, g.write nD _, ?_⟩
      rw [List.take_add_one, hx']
      simp)
  · rw [hPv] at h
    obtain ⟨nD, g, rfl⟩ := h
    have es : (tx l).cps.size = l.length := tl
    rw [es, List.take_length] at hD
    refine ⟨D, _, rfl, SqL.of hD, ?_⟩
    have ef : (l.map figB).all id = figM m l := by
      unfold figM
      have n3 : (decide (l[0]? = some 48) && decide (1 < l.length)) = false := by
        rw [Bool.and_eq_false_iff]
        by_cases c : l[0]? = some 48
        · exact .inr (decide_eq_false fun z => l3 ⟨c, z⟩)
        · exact .inl (decide_eq_false c)
      rw [decide_eq_true l1, decide_eq_true l2, n3, List.all_map]
      rfl
    rw [ef]
    exact q _ g
def inL : List Nat := [105, 110, 32]
theorem inL_tx : Str.ofString "in " = tx inL := by decide +kernel
theorem tx_app (k l : List Nat) : tx k ++ tx l = tx (k ++ l) := by
  apply str_ext
  rw [str_app, tx_list, tx_list, tx_list]
theorem sub_at (l y : List Nat) (i : Nat) (hy : y.length ≠ 0) : (decide (i + (tx y).length ≤ (tx l).length) && Builtin.Str.subAt (tx l) (tx y) i) = decide ((l.drop i).take y.length = y) := by
  rw [tx_len, tx_len]
  have e : Builtin.Str.subAt (tx l) (tx y) i = decide ((l.drop i).take y.length = y) := by
    unfold Builtin.Str.subAt
    rw [Bool.eq_iff_iff, decide_eq_true_eq, beq_iff_eq, ← Array.toList_inj, Array.toList_extract, List.extract_eq_take_drop]
    have e1 : i + (tx y).length - i = y.length := by rw [tx_len]; omega
    rw [e1]
    show (List.take y.length (List.drop i (tx l).cps.toList)) = (tx y).cps.toList ↔ _
    rw [tx_list, tx_list]
  rw [e]
  by_cases c : (l.drop i).take y.length = y
  · rw [decide_eq_true c, Bool.and_true, decide_eq_true_eq]
    have := congrArg List.length c
    rw [List.length_take, List.length_drop] at this
    omega
  · rw [decide_eq_false c, Bool.and_false]
theorem slice_at {l : List Nat} {i j : Nat} (h : i ≤ j) (hj : j ≤ l.length) : Txt.slice (tx l) (some (i : Int)) (some (j : Int)) = tx ((l.drop i).take (j - i)) := by
  have := beq_iff_eq.mp (PyProof.Rows.slice_closesL (x := tx l) (i := i) (j := j) (by omega) (by omega) (by rw [tx_len]; omega))
  rw [this, tx_list]
  have e : ((j : Int) - (i : Int)).toNat = j - i := by omega
  rw [Int.toNat_natCast, e]
  rfl

theorem tx_ne {k l : List Nat} : (tx k = tx l) ↔ k = l := by
  constructor
  · intro h
    have : (tx k).cps.toList = (tx l).cps.toList := by rw [h]
    rwa [tx_list, tx_list] at this
  · rintro rfl
    rfl
theorem eqT {l k : List Nat} {H : Hp} {Q : VK} (q : Q (.bl (decide (l = k))) H) : rEq (.str (tx l)) (.str (tx k)) H Q := by
  refine ⟨rfl, ?_⟩
  have : decide (V.str (tx l) = V.str (tx k)) = decide (l = k) := decide_eq_decide.mpr ⟨fun h => tx_ne.mp (V.str.inj h), fun h => by rw [h]⟩
  rw [this]
  exact q
theorem neT {l k : List Nat} {H : Hp} {Q : VK} (q : Q (.bl (!decide (l = k))) H) : rNe (.str (tx l)) (.str (tx k)) H Q := by
  refine ⟨rfl, ?_⟩
  have : decide (V.str (tx l) = V.str (tx k)) = decide (l = k) := decide_eq_decide.mpr ⟨fun h => tx_ne.mp (V.str.inj h), fun h => by rw [h]⟩
  rw [this]
  exact q
theorem eqS {y z : Str} {H : Hp} {Q : VK} (q : Q (.bl (decide (y = z))) H) : rEq (.str y) (.str z) H Q := by
  refine ⟨rfl, ?_⟩
  have : decide (V.str y = V.str z) = decide (y = z) := decide_eq_decide.mpr ⟨fun h => V.str.inj h, fun h => by rw [h]⟩
  rw [this]
  exact q
theorem nb {b : Bool} (h : (!b) = true) : ¬ b = true := by
  cases b
  · decide
  · cases h
theorem slice_from {l : List Nat} {i : Nat} (hi : i ≤ l.length) : Txt.slice (tx l) (some (i : Int)) none = tx (l.drop i) := by
  have a : ¬ ((l.length : Int) < 0) := by omega
  have e : Txt.slice (tx l) (some (i : Int)) none = Txt.slice (tx l) (some (i : Int)) (some (l.length : Int)) := by
    show StrLaws.sliceText _ _ _ = StrLaws.sliceText _ _ _
    unfold StrLaws.sliceText
    rw [tx_len]
    simp [Builtin.Str.strSliceIndices, a]
  rw [e, slice_at hi (Nat.le_refl _), List.take_of_length_le (by rw [List.length_drop]; omega)]

local macro_rules | `(tactic| walk_at "wpd") => `(tactic| try simp only [tSeq_ap, tCGet_ap, iZipT_ap, tDGet_ap, tDIn_ap, tDNotIn_ap, sDPut_ap, tDNewK_ap, tNo_ap, tIfS_ap, tAsg_ap, gName_ap, tRet_ap, tRetN_ap, tNext_ap, tBreak_ap, tCont_ap, tDrop_ap, tC_ap, tVar_0, tVar_s, tOp_ap, tUn_ap, rI0_ap, rI_ap, rU_ap, rEq_int, rNe_int, tTest_ap, tB_ap, ex_bl, ex_ref, ex_int, tAnd_ap, tOr_ap, tNot_ap, tAndV_ap, tOrV_ap, tNotV_ap, tIf_ap, tNil_ap, tCons_ap, tTup_ap, tLst_ap, tCall_ap, tCB_ap, tChain_ap, tPar_ap, ex_two, tAug_ap, ipI_ap, tSl_ap, tNoPart_ap, tPart_ap, tBM_ap, tBM0_ap, tTrue_ap, gSub_ap, gCons_ap, gNil_ap, tFor_ap, iRng1_ap, iRng2_ap, iRngA_ap, iRng3_ap, iRngN_ap, iRevR_ap, tRng_ap, iList_ap, iTup_ap, iRev_ap, iZip_ap, iZip3_ap, iEnum_ap, iEnumT_ap, iStr_ap, tFmt_ap, jNil_ap, jCons_ap, tJoin_ap, tFld_ap, sFld_ap, sFldAug_ap, tMeth_ap, tMake_ap, tListRev_ap, tMinD_ap, tMaxD_ap, tComp_ap, ite_and, L2.start, cxOf_K, cxComp_K, cxCompX_K, List.map_cons, List.map_nil, List.length_cons, List.length_nil, List.replicate, List.cons_append, List.nil_append, List.append_nil, List.set_cons_zero, List.set_cons_succ, decide_eq_true_eq, Bool.not_eq_true', decide_eq_false_iff_not, Bool.not_eq_eq_eq_not, Bool.not_true, Bool.not_false, sizeLine_eq, oV, reduceCtorEq, isI_ii, isI_ib, isI_ni, isI_bb, Nat.reduceAdd, Nat.reduceSub, Nat.reduceLeDiff, Nat.zero_add, true_and, and_true, forall_const, Bool.false_eq_true, if_true, if_false, false_implies, true_implies, not_false_eq_true, not_true_eq_false, implies_true])
def ltB (c : Nat) : Bool := decide (97 ≤ c ∧ c ≤ 122)
def nmB (l : List Nat) : Bool := decide (1 ≤ l.length) && (decide (l.length ≤ 8) && l.all ltB)
def turnB (l : List Nat) : Bool := if l.take 1 = [45] then !decide (l = [45, 48]) && figsB (l.drop 1) else figsB l
def fitB (p : Str) (l : List Nat) : Bool := if p = "name" then nmB l else if p = "turn" then turnB l else if p = "prime" then figM 12 l else if p = "number" then figM 50 l else true
theorem let_in (c : Nat) : (!(Builtin.Str.occurrences (Str.ofString "abcdefghijklmnopqrstuvwxyz") ⟨#[c]⟩ 0 (Str.ofString "abcdefghijklmnopqrstuvwxyz").length 1).isEmpty) = ltB c := by
  rw [StrLaws.found_one]
  have el : (Str.ofString "abcdefghijklmnopqrstuvwxyz").cps.toList = [97, 98, 99, 100, 101, 102, 103, 104, 105, 106, 107, 108, 109, 110, 111, 112, 113, 114, 115, 116, 117, 118, 119, 120, 121, 122] := by decide +kernel
  rw [el]
  unfold ltB
  rw [decide_eq_decide]
  simp
  omega
def sp_is_name : Sp := fun vs H Q _ => ∃ l : List Nat, vs = [.str (tx l)] ∧ TxOk l ∧ ∀ H', Same H H' → Q (.bl (nmB l)) H'
theorem h_is_name (T : TF K mg "is_name" s_is_name) (m_len : mg "len" = none) (m_all : mg "all" = none) (c_LETTERS : CS mg "LETTERS" "abcdefghijklmnopqrstuvwxyz") (c_MOST_LETTERS : CI mg "MOST_LETTERS" 8) : Has P w K mg base 1 "is_name" ["word"] sp_is_name := by
  refine T.has sc_is_name (fun _ _ _ _ _ _ us hl => match us, hl with | [_], _ => rfl) (fun vs H Q E h => ?_) (fun f cdv A outer s H vs Q E hr h => ?_)
  · obtain ⟨l, rfl, _⟩ := h
    rfl
  obtain ⟨l, rfl, hl, q⟩ := h
  refine ⟨_, (pss_one (ps_ret (pe_and (pe_chain op_le op_le pe_int (pe_callB call_len_str rfl m_len PySem.boot_len (pa_cons (pv 0) pa_nil)) (pe_ci rfl c_MOST_LETTERS)) (pe_one (pe_callB (call_allB rfl) rfl m_all (by decide +kernel) (pa_cons (pe_comp (CompSc.none (own := ["sign"]) (by decide +kernel) (by decide +kernel) rfl (by decide +kernel)) rfl (pi_str (pv 0)) (fun _ _ _ => (pg_name (i := 0) (show (["sign"] : List Str).Nodup from by decide +kernel) rfl (Or.inl rfl) (Or.inr rfl))) (fun _ _ _ => pts_nil) (fun _ _ _ => (pe_cmpR op_in_str (pv 0) (pe_cs rfl c_LETTERS) rfl))) pa_nil)))))), ?_⟩
  have ln := hl.1
  have tl := tx_len l
  walk_at "wp"
  have no : nmB l = false → Q (.bl false) H := fun e => by
    have := q H (Same.refl H)
    rw [e] at this
    exact this
  refine ⟨_, rfl, by omega, fun c1 => ⟨fun c2 => ⟨_, rfl, hl.asc, ?_⟩, fun c2 => no ?_⟩, fun c1 => no ?_⟩
  · obtain ⟨Sv, hSv⟩ : ∃ Sv : St → Prop, Sv = fun σ => ∃ o1, σ = [o1] := ⟨_, rfl⟩
    obtain ⟨Pv, hPv⟩ : ∃ Pv : Addr → Nat → List V → Hp → Prop, Pv = fun D i ys H3 => H D = none ∧ Same H H3 ∧ ys = ((l.take i).map ltB).map V.bl := ⟨_, rfl⟩
    refine compW_str Sv Pv (by rw [hSv]; exact ⟨none, rfl⟩) (fun D hD => ?_) (fun D i c ys σ H3 hx hs hD hy h => ?_) (fun D ys H3 hD h => ?_)
    · rw [hPv]
      exact ⟨hD, same_new hD _, rfl⟩
    · rw [hSv] at hs
      rw [hPv] at h
      obtain ⟨o1, rfl⟩ := hs
      obtain ⟨nD, g, rfl⟩ := h
      have hx' : l[i]? = some c := by
        rw [← tx_list l, Array.getElem?_toList]
        exact hx
      have hi := (List.getElem?_eq_some_iff.mp hx').1
      walk_at "wp"
      refine ⟨_, _, rfl, rfl, ?_⟩
      rw [let_in]
      refine CompP.mk hD hy (by rw [sizeLine_eq]; omega) (by rw [hSv]; exact ⟨_, rfl⟩) (by
        rw [hPv]
        refine ⟨nD, g.write nD _, ?_⟩
        rw [List.take_add_one, hx']
        simp)
    · rw [hPv] at h
      obtain ⟨nD, g, rfl⟩ := h
      have es : (tx l).cps.size = l.length := tl
      rw [es, List.take_length] at hD
      refine ⟨D, _, rfl, SqL.of hD, ?_⟩
      have ef : (l.map ltB).all id = nmB l := by
        unfold nmB
        rw [decide_eq_true (p := 1 ≤ l.length) (by omega), decide_eq_true (p := l.length ≤ 8) (by omega), List.all_map]
        rfl
      rw [ef]
      exact q _ g
  · unfold nmB
    rw [decide_eq_false (p := l.length ≤ 8) (by omega)]
    simp
  · unfold nmB
    rw [decide_eq_false (p := 1 ≤ l.length) (by omega)]
    simp
def sp_is_turn : Sp := fun vs H Q _ => ∃ l : List Nat, vs = [.str (tx l)] ∧ TxOk l ∧ ∀ H', Same H H' → Q (.bl (turnB l)) H'
theorem h_is_turn (T : TF K mg "is_turn" s_is_turn) (c_MOST_FIGURES : CI mg "MOST_FIGURES" 100) (G_is_figures : Has P w K mg base 1 "is_figures" ["text", "most"] sp_is_figM) : Has P w K mg base 2 "is_turn" ["word"] sp_is_turn := by
  refine T.has sc_is_turn (fun _ _ _ _ _ _ us hl => match us, hl with | [_], _ => rfl) (fun vs H Q E h => ?_) (fun f cdv A outer s H vs Q E hr h => ?_)
  · obtain ⟨l, rfl, _⟩ := h
    rfl
  obtain ⟨l, rfl, hl, q⟩ := h
  refine ⟨_, (pss_cons (ps_if (pt_val (pe_bm PySem.F.plainAttrs_str PySem.F.slot_str_startswith PySem.F.type_str_startswith mt_starts (pv 0) (pa_cons pe_str pa_nil)) (fun _ => rfl)) (pss_one (ps_ret (pe_and (pe_cmpR op_ne (pv 0) pe_str (nomark _)) (pe_one (pe_def (G_is_figures.mono (by first | decide | omega)) hr (pa_cons (pe_slice sl_str (pv 0) (po_some pe_int) po_none) (pa_cons (pe_ci rfl c_MOST_FIGURES) pa_nil))))))) pss_nil) (pss_one (ps_ret (pe_def (G_is_figures.mono (by first | decide | omega)) hr (pa_cons (pv 0) (pa_cons (pe_ci rfl c_MOST_FIGURES) pa_nil)))))), ?_⟩
  have ln := hl.1
  have tl := tx_len l
  walk_at "wp"
  have mT : Str.ofString "-" = tx [45] := by decide +kernel
  have zT : Str.ofString "-0" = tx [45, 48] := by decide +kernel
  have sb := sub_at l [45] 0 (by decide)
  rw [Nat.zero_add, List.drop_zero] at sb
  refine ⟨rfl, _, _, rfl, rfl, fun c => ?_, fun c => ?_⟩
  · rw [mT, sb, decide_eq_true_eq] at c
    have c' : l.take 1 = [45] := c
    have l1 : 1 ≤ l.length := by
      have := congrArg List.length c'
      rw [List.length_take] at this
      simp at this
      omega
    unfold turnB at q
    rw [if_pos c'] at q
    rw [zT]
    refine neT ⟨_, rfl, fun c2 => ?_, fun c2 => ?_⟩
    · rw [c2, Bool.true_and] at q
      refine ⟨_, rfl, by rw [tl, sizeLine_eq]; omega, ?_⟩
      have e1 : Txt.slice (tx l) (some 1) none = tx (l.drop 1) := slice_from (i := 1) l1
      rw [e1]
      exact ⟨l.drop 1, 100, rfl, ⟨by rw [List.length_drop]; omega, fun x hx => hl.2 x (List.mem_of_mem_drop hx)⟩, q⟩
    · have c3 : (!decide (l = [45, 48])) = false := by simpa using c2
      rw [c3] at q
      exact q H (Same.refl H)
  · rw [mT, sb, decide_eq_true_eq] at c
    have c' : ¬ l.take 1 = [45] := c
    unfold turnB at q
    rw [if_neg c'] at q
    exact ⟨l, 100, rfl, hl, q⟩
def sp_fits : Sp := fun vs H Q _ => ∃ (p : Str) (l : List Nat), vs = [.str p, .str (tx l)] ∧ TxOk l ∧ ∀ H', Same H H' → Q (.bl (fitB p l)) H'
theorem h_fits (T : TF K mg "fits" s_fits) (c_PRIME_FIGURES : CI mg "PRIME_FIGURES" 12) (c_GRID_FIGURES : CI mg "GRID_FIGURES" 50) (G_is_figures : Has P w K mg base 1 "is_figures" ["text", "most"] sp_is_figM) (G_is_name : Has P w K mg base 1 "is_name" ["word"] sp_is_name) (G_is_turn : Has P w K mg base 2 "is_turn" ["word"] sp_is_turn) : Has P w K mg base 3 "fits" ["place", "word"] sp_fits := by
  refine T.has sc_fits (fun _ _ _ _ _ _ us hl => match us, hl with | [_, _], _ => rfl) (fun vs H Q E h => ?_) (fun f cdv A outer s H vs Q E hr h => ?_)
  · obtain ⟨p, l, rfl, _⟩ := h
    rfl
  obtain ⟨p, l, rfl, hl, q⟩ := h
  refine ⟨_, (pss_cons (ps_if (pt_cmpR op_eq (pv 0) pe_str (nomark _)) (pss_one (ps_ret (pe_def (G_is_name.mono (by first | decide | omega)) hr (pa_cons (pv 1) pa_nil)))) pss_nil) (pss_cons (ps_if (pt_cmpR op_eq (pv 0) pe_str (nomark _)) (pss_one (ps_ret (pe_def (G_is_turn.mono (by first | decide | omega)) hr (pa_cons (pv 1) pa_nil)))) pss_nil) (pss_cons (ps_if (pt_cmpR op_eq (pv 0) pe_str (nomark _)) (pss_one (ps_ret (pe_def (G_is_figures.mono (by first | decide | omega)) hr (pa_cons (pv 1) (pa_cons (pe_ci rfl c_PRIME_FIGURES) pa_nil))))) pss_nil) (pss_cons (ps_if (pt_cmpR op_eq (pv 0) pe_str (nomark _)) (pss_one (ps_ret (pe_def (G_is_figures.mono (by first | decide | omega)) hr (pa_cons (pv 1) (pa_cons (pe_ci rfl c_GRID_FIGURES) pa_nil))))) pss_nil) (pss_one (ps_ret pe_bl)))))), ?_⟩
  walk_at "wp"
  unfold fitB at q
  refine eqS ⟨_, rfl, fun c => ?_, fun c => ?_⟩
  · rw [if_pos (of_decide_eq_true c)] at q
    exact ⟨l, rfl, hl, q⟩
  rw [if_neg (fun z => c (decide_eq_true z))] at q
  refine eqS ⟨_, rfl, fun c => ?_, fun c => ?_⟩
  · rw [if_pos (of_decide_eq_true c)] at q
    exact ⟨l, rfl, hl, q⟩
  rw [if_neg (fun z => c (decide_eq_true z))] at q
  refine eqS ⟨_, rfl, fun c => ?_, fun c => ?_⟩
  · rw [if_pos (of_decide_eq_true c)] at q
    exact ⟨l, 12, rfl, hl, q⟩
  rw [if_neg (fun z => c (decide_eq_true z))] at q
  refine eqS ⟨_, rfl, fun c => ?_, fun c => ?_⟩
  · rw [if_pos (of_decide_eq_true c)] at q
    exact ⟨l, 50, rfl, hl, q⟩
  rw [if_neg (fun z => c (decide_eq_true z))] at q
  exact q H (Same.refl H)
def FORMSd : List (Str × List Str) := [("plan", ["name", "text"]), ("pair", ["name", "prime", "prime"]), ("grid", ["name", "number"]), ("awake", ["name", "turn"]), ("meet", ["name", "name", "turn", "turn"]), ("sure", ["name", "name"]), ("worst", ["name", "name"]), ("check", ["name", "name", "text"])]
def formOf (l : List Nat) : Option (List Str) := FORMSd.lookup (tx (l.takeWhile (· != 32)))
def fitsB : List Str → List (List Nat) → Bool
  | p :: ps, w :: ws => fitB p w && fitsB ps ws
  | _, _ => true
def rowOf (l : List Nat) : Option (List (List Nat)) := match formOf l with
  | none => none
  | some f => if (splN 32 l f.length).length = f.length + 1 ∧ fitsB f (splN 32 l f.length).tail = true then some (splN 32 l f.length) else none
theorem lookup_mem {z : Str} {ys : List Str} : ∀ {tb : List (Str × List Str)}, tb.lookup z = some ys → ∃ k, (k, ys) ∈ tb
  | [], h => nomatch h
  | (k, v) :: tb, h => by
    rw [List.lookup_cons] at h
    split at h
    · cases h
      exact ⟨k, by simp⟩
    · obtain ⟨k', hk⟩ := lookup_mem h
      exact ⟨k', by simp [hk]⟩
theorem forms_len {z : Str} {f : List Str} (h : FORMSd.lookup z = some f) : f.length ≤ 4 := by
  obtain ⟨k, hk⟩ := lookup_mem h
  have all : ∀ p ∈ FORMSd, p.2.length ≤ 4 := by
    intro p hp
    simp only [FORMSd, List.mem_cons, List.not_mem_nil, or_false] at hp
    rcases hp with rfl | rfl | rfl | rfl | rfl | rfl | rfl | rfl <;> simp
  exact all _ hk
theorem cutV_one (xs : List V) : cutV xs (some 1) none = xs.drop 1 := by
  unfold cutV
  rw [HT.sIx_none, show (1 : Int) = ((1 : Nat) : Int) from rfl, HT.sIx_nat]
  cases xs with
  | nil => rfl
  | cons x xs =>
    rw [List.take_of_length_le (by rw [List.length_drop]; omega)]
    congr 1
def sp_words_of (N : Addr) : Sp := fun vs H Q E => ∃ l : List Nat, vs = [.str (tx l)] ∧ TxOk l ∧ (rowOf l = none → ∀ x H', Same H H' → H' x = none → E (.ref N) (some x) H') ∧ ∀ ws D H', rowOf l = some ws → Same H H' → H D = none → H' D = some (.lst ((ws.map tx).map V.str)) → Q (.ref D) H'
theorem h_words_of {c_NoRow : Addr} {bm : List Value} (T : TF K mg "words_of" s_words_of) (m_len : mg "len" = none) (m_zip : mg "zip" = none) (m_isinstance : mg "isinstance" = none) (m_str : mg "str" = none) (O_NoRow : OX K mg "NoRow" c_NoRow bm) (D_FORMS : CDT P w K mg "FORMS" FORMSd) (G_fits : Has P w K mg base 3 "fits" ["place", "word"] sp_fits) : HasX P w K mg base 4 "words_of" ["row"] (sp_words_of c_NoRow) := by
  refine T.hasX sc_words_of (fun _ _ _ _ _ _ us hl => match us, hl with | [_], _ => rfl) (fun vs H Q E h => ?_) (fun f cdv A outer s H vs Q E hr h => ?_)
  · obtain ⟨l, rfl, _⟩ := h
    rfl
  obtain ⟨l, rfl, hl, qx, q⟩ := h
  refine ⟨_, (pss_cons (ps_if (pt_not (pt_val (pe_callB call_isI rfl m_isinstance (by decide +kernel) (pa_cons (pv 0) (pa_cons (pe_bltn (v := .ty "str") rfl m_str (by decide +kernel) rfl) pa_nil))) (fun _ => rfl))) (pss_one (ps_raise O_NoRow rfl throwX (pa_cons pe_str pa_nil))) pss_nil) (pss_cons (ps_set (i := 1) sc_words_of.nd rfl (Or.inl rfl) (pe_cget D_FORMS rfl (pe_ix ix_tup (pe_bm PySem.F.plainAttrs_str PySem.F.slot_str_partition PySem.F.type_str_partition mt_partition (pv 0) (pa_cons pe_str pa_nil)) pe_int (fun _ _ => rfl)) ⟨rfl, rfl, rfl, rfl⟩)) (pss_cons (ps_if (pt_cmpR op_isN (pv 1) pe_non (nomark _)) (pss_one (ps_raise O_NoRow rfl throwX (pa_cons pe_str pa_nil))) pss_nil) (pss_cons (ps_set (i := 2) sc_words_of.nd rfl (Or.inl rfl) (pe_bm PySem.F.plainAttrs_str PySem.F.slot_str_split PySem.F.type_str_split mt_splitM (pv 0) (pa_cons pe_str (pa_cons (pe_callB call_len_seq rfl m_len PySem.boot_len (pa_cons (pv 1) pa_nil)) pa_nil)))) (pss_cons (ps_if (pt_cmpR op_ne (pe_callB call_len_seq rfl m_len PySem.boot_len (pa_cons (pv 2) pa_nil)) (pe_op op_add (pe_callB call_len_seq rfl m_len PySem.boot_len (pa_cons (pv 1) pa_nil)) pe_int) (nomark _)) (pss_one (ps_raise O_NoRow rfl throwX (pa_cons pe_str pa_nil))) pss_nil) (pss_cons (ps_cut (ps_for own_cx rfl (pi_zipT rfl m_zip (pv 1) (pe_slice sl_list (pv 2) (po_some pe_int) po_none)) (pg_tup rfl (pgs_cons (pg_name (i := 3) sc_words_of.nd rfl (Or.inl rfl)) (pgs_cons (pg_name (i := 4) sc_words_of.nd rfl (Or.inl rfl)) pgs_nil))) (pss_one (ps_if (pt_not (pt_val (pe_def (G_fits.mono (by first | decide | omega)) hr (pa_cons (pv 3) (pa_cons (pv 4) pa_nil))) (fun _ => rfl))) (pss_one (ps_raise O_NoRow rfl throwX (pa_cons pe_str pa_nil))) pss_nil)))) (pss_one (ps_ret (pv 2))))))))), ?_⟩
  have ln := hl.1
  have tl := tx_len l
  walk_at "wpd"
  refine ⟨_, _, _, true, rfl, .str _, rfl, _, rfl, (fun c => nomatch c), fun _ => ?_⟩
  walk_at "wpd"
  rw [blank1]
  refine ⟨rfl, _, _, rfl, rfl, rfl, by rw [tl]; omega, fun D nD => ?_⟩
  have gD := same_new nD (.tup [V.str (Txt.partition (tx l) ⟨#[32]⟩).1, V.str (Txt.partition (tx l) ⟨#[32]⟩).2.1, V.str (Txt.partition (tx l) ⟨#[32]⟩).2.2])
  refine ⟨D, _, _, _, rfl, rfl, SqT.of upd_same, rfl, _, rfl, ?_⟩
  generalize upd H D (.tup [V.str (Txt.partition (tx l) ⟨#[32]⟩).1, V.str (Txt.partition (tx l) ⟨#[32]⟩).2.1, V.str (Txt.partition (tx l) ⟨#[32]⟩).2.2]) = H1 at gD ⊢
  rw [partition_hd, tx_list]
  refine ⟨fun e => ⟨by decide, fun x hx => qx ?_ x H1 gD hx⟩, fun f b e hf => ?_⟩
  · unfold rowOf formOf
    rw [e]
  have lf := forms_len e
  have er : rowOf l = if (splN 32 l f.length).length = f.length + 1 ∧ fitsB f (splN 32 l f.length).tail = true then some (splN 32 l f.length) else none := by
    unfold rowOf formOf
    rw [e]
  refine ⟨rfl, b, _, rfl, .inr hf, _, _, f.length, rfl, by rw [List.length_map], rfl, by omega, by rw [tl]; omega, fun D2 nD2 => ?_⟩
  rw [splitMax_spl _ _ _ (by decide), tx_list]
  have wsm : ∀ w ∈ splN 32 l f.length, TxOk w := fun w hw => by
    obtain ⟨a, b⟩ := splN_small hw
    exact ⟨by omega, fun x hx => hl.2 x (b x hx)⟩
  generalize splN 32 l f.length = ws at er wsm
  have g2 := same_new nD2 (.lst ((ws.map tx).map V.str))
  have h2 := upd_same (H := H1) (a := D2) (o := .lst ((ws.map tx).map V.str))
  have nD2' := gD.free nD2
  have hf2 := g2.seqT hf
  have G2 := gD.trans g2
  generalize upd H1 D2 (.lst ((ws.map tx).map V.str)) = H2 at g2 h2 hf2 G2 ⊢
  refine ⟨D2, _, rfl, .inl (SqL.of h2), b, _, rfl, .inr hf2, fun c => ⟨by decide, fun x hx => qx ?_ x H2 G2 hx⟩, fun c => ?_⟩
  · rw [er, if_neg fun z => c ?_]
    simp only [List.length_map]
    have := z.1
    omega
  simp only [List.length_map] at c
  have lw : ws.length = f.length + 1 := by omega
  walk_at "wpd"
  refine ⟨fun σ H' => ∃ o3 o4, σ = [some (.str (tx l)), some (.ref b), some (.ref D2), o3, o4] ∧ Same H2 H' ∧ fitsB f ws.tail = true, ?_, ?_⟩
  · walk_at "wpd"
    refine ⟨D2, _, rfl, SqL.of h2, fun p3 n3 => ?_⟩
    rw [cutV_one]
    have g3 := same_new n3 (.lst (((ws.map tx).map V.str).drop 1))
    have h3 := upd_same (H := H2) (a := p3) (o := .lst (((ws.map tx).map V.str).drop 1))
    have hf3 := g3.seqT hf2
    generalize upd H2 p3 (.lst (((ws.map tx).map V.str).drop 1)) = H3 at g3 h3 hf3 ⊢
    refine ⟨b, p3, _, _, rfl, rfl, hf3, SqL.of h3, ?_⟩
    obtain ⟨Pv, hPv⟩ : ∃ Pv : Nat → St → Hp → Prop, Pv = fun i σ H' => ∃ o3 o4, σ = [some (.str (tx l)), some (.ref b), some (.ref D2), o3, o4] ∧ Same H3 H' ∧ fitsB f ws.tail = fitsB (f.drop i) (ws.tail.drop i) := ⟨_, rfl⟩
    refine forW_zipT Pv ?_ (fun i σ H' h => ?_) (fun i u v T σ H' hu hv nT h => ?_) (fun σ H' h => ?_)
    · rw [hPv]
      exact ⟨none, none, rfl, Same.refl _, rfl⟩
    · rw [hPv] at h
      obtain ⟨_, _, _, g, _⟩ := h
      exact ⟨g.seqT hf3, SqL.of (g _ _ h3)⟩
    · rw [hPv] at h
      obtain ⟨o3, o4, rfl, g, ef⟩ := h
      rw [List.getElem?_map] at hu
      obtain ⟨p, hp, rfl⟩ := Option.map_eq_some_iff.mp hu
      rw [← List.map_drop, ← List.map_drop, List.getElem?_map, List.getElem?_map] at hv
      obtain ⟨z, hz, rfl⟩ := Option.map_eq_some_iff.mp hv
      obtain ⟨wd, hwd, rfl⟩ := Option.map_eq_some_iff.mp hz
      have gT := same_new nT (.tup [V.str p, V.str (tx wd)])
      refine ⟨T, _, rfl, SqT.of upd_same, rfl, ?_⟩
      walk_at "wpd"
      have fd : f.drop i = p :: f.drop (i + 1) := by
        obtain ⟨hi, e1⟩ := List.getElem?_eq_some_iff.mp hp
        rw [← e1, List.drop_eq_getElem_cons hi]
      have wd2 : ws.tail.drop i = wd :: ws.tail.drop (i + 1) := by
        rw [← List.drop_one]
        obtain ⟨hi, e1⟩ := List.getElem?_eq_some_iff.mp hwd
        rw [← e1, List.drop_eq_getElem_cons hi]
      rw [fd, wd2] at ef
      have ef2 : fitsB f ws.tail = (fitB p wd && fitsB (f.drop (i + 1)) (ws.tail.drop (i + 1))) := ef
      refine ⟨p, wd, rfl, wsm wd (List.mem_of_mem_drop (List.mem_of_getElem? hwd)), fun H5 g5 => ⟨_, rfl, fun c => ⟨by decide, fun x hx => qx ?_ x H5 (G2.trans (g3.trans (g.trans (gT.trans g5)))) hx⟩, fun c => ?_⟩⟩
      · rw [er, if_neg]
        rintro ⟨_, z⟩
        rw [ef2, c] at z
        cases z
      · have c' : fitB p wd = true := by simpa using c
        rw [c', Bool.true_and] at ef2
        rw [hPv]
        exact ⟨_, _, rfl, g.trans (gT.trans g5), ef2⟩
    · rw [hPv] at h
      obtain ⟨o3, o4, rfl, g, ef⟩ := h
      have e0 : f.drop (min (f.map V.str).length (((ws.map tx).map V.str).drop 1).length) = [] := List.drop_eq_nil_of_le (by simp; omega)
      rw [e0] at ef
      exact ⟨o3, o4, rfl, g3.trans g, by rw [ef]; rfl⟩
  rintro σ H' ⟨o3, o4, rfl, g, ef⟩
  walk_at "wpd"
  exact q ws D2 H' (by rw [er, if_pos ⟨lw, ef⟩]) (G2.trans g) nD2' (g _ _ h2)

theorem dg_neg {n : Int} (h : n < 0) : dg n = 45 :: dg (-n) := by
  obtain ⟨m, rfl⟩ : ∃ m : Nat, n = Int.negSucc m := by
    cases n with
    | ofNat m => exact absurd h (by simp)
    | negSucc m => exact ⟨m, rfl⟩
  unfold dg
  have e : -(Int.negSucc m) = ((m + 1 : Nat) : Int) := rfl
  rw [e, PyProof.Rows.signs_ofString, PyProof.Rows.signs_ofString]
  show ("-" ++ toString (m + 1)).toList.map Char.toNat = 45 :: (toString (m + 1)).toList.map Char.toNat
  rw [String.toList_append, List.map_append]
  rfl
structure SgOk (n : Int) : Prop where
  rd : intText? (tx (dg n)) = some n
  len : (dg n).length ≤ 101
  sz : n.natAbs.log2 < 1920
  sg : ∀ c ∈ dg n, c = 45 ∨ 48 ≤ c ∧ c ≤ 57
  turn : turnB (dg n) = true
theorem figs_dg {n : Int} (h : DgOk n) : figsB (dg n) = true := by
  refine figs_iff.mpr ⟨List.length_pos_iff.mpr h.ne, h.len, fun ⟨a, b⟩ => ?_, h.all⟩
  have := h.zero a
  omega
theorem sgOk {n : Int} (h0 : -(10 ^ 100) < n) (h1 : n < 10 ^ 100) : SgOk n := by
  have sz : n.natAbs.log2 < 1920 := by
    by_cases z : n.natAbs = 0
    · rw [z]; decide
    · refine (Nat.log2_lt z).mpr (Nat.lt_of_lt_of_le (m := 10 ^ 100) (by omega) (by decide +kernel))
  rcases Int.lt_or_le n 0 with c | c
  · have d := dgOk (n := -n) (by omega) (by omega)
    have e := dg_neg c
    have fg := figs_dg d
    refine ⟨?_, by rw [e, List.length_cons]; have := d.len; omega, sz, fun x hx => ?_, ?_⟩
    · have := intText_neg (x := tx (dg n)) (cs := dg (-n)) (by rw [tx_list, e]) d.all d.ne (by rw [tx_len, e, List.length_cons]; have := d.len; omega)
      rw [this, d.val]
      congr 1
      omega
    · rw [e] at hx
      rcases List.mem_cons.mp hx with rfl | hx
      · exact .inl rfl
      · exact .inr (d.all x hx)
    · unfold turnB
      rw [e, if_pos (by rfl)]
      have ne : ¬ (45 :: dg (-n)) = [45, 48] := fun z => by
        have z2 : dg (-n) = [48] := (List.cons.inj z).2
        have v := d.val
        rw [z2] at v
        have : (0 : Int) = -n := v
        omega
      rw [decide_eq_false ne]
      show (true && figsB (dg (-n))) = true
      rw [fg]
      rfl
  · have d := dgOk c h1
    have fg := figs_dg d
    refine ⟨?_, by have := d.len; omega, sz, fun x hx => .inr (d.all x hx), ?_⟩
    · have := intText_digits (x := tx (dg n)) (by rw [tx_list]; exact d.all) (by rw [tx_list]; exact d.ne) (by rw [tx_len]; have := d.len; omega)
      rw [this, tx_list, d.val]
    · unfold turnB
      rw [if_neg (fun z => ?_)]
      · exact fg
      · have ne := d.ne
        cases e : dg n with
        | nil => exact ne e
        | cons x r =>
          rw [e] at z
          have : x = 45 := by simpa using z
          have := d.all x (by rw [e]; simp)
          omega

abbrev Book := Str → Option (List T3)
def KpP (ws : List T3) : Prop := (∀ u ∈ ws, Wk u) ∧ (∀ u ∈ ws, u.1 < 2 ^ 900) ∧ ws.length ≤ 12
def BkAt (H : Hp) (kvs : List (Key × V)) (L : Book) : Prop := ∀ z : Str, (L z = none → valV kvs (.inr z) = none) ∧ ∀ ws, L z = some ws → KpP ws ∧ ∃ D xs, valV kvs (.inr z) = some (.ref D) ∧ H D = some (.lst xs) ∧ Pl H xs ws
def OffD (pd : Addr) (H H' : Hp) : Prop := ∀ b o, b ≠ pd → H b = some o → H' b = some o
theorem OffD.trans {pd : Addr} {H H1 H2 : Hp} (g : OffD pd H H1) (h : OffD pd H1 H2) : OffD pd H H2 := fun b o n e => h b o n (g b o n e)
theorem pl_by {H H' : Hp} {xs : List V} {ws : List T3} (h : Pl H xs ws) (k : ∀ b ys, H b = some (.tup ys) → H' b = some (.tup ys)) : Pl H' xs ws := ⟨h.1, fun i t e => let ⟨p, e1, e2⟩ := h.2 i t e; ⟨p, e1, k _ _ e2⟩⟩
theorem BkAt.by {H H' : Hp} {kvs : List (Key × V)} {L : Book} (h : BkAt H kvs L) (k1 : ∀ b xs, H b = some (.lst xs) → H' b = some (.lst xs)) (k2 : ∀ b ys, H b = some (.tup ys) → H' b = some (.tup ys)) : BkAt H' kvs L := fun z =>
  ⟨(h z).1, fun ws e => let ⟨a, D, xs, e1, e2, e3⟩ := (h z).2 ws e; ⟨a, D, xs, e1, k1 _ _ e2, pl_by e3 k2⟩⟩
def setB (L : Book) (z : Str) (ws : List T3) : Book := fun y => if y = z then some ws else L y
theorem BkAt.put {H : Hp} {kvs : List (Key × V)} {L : Book} {z : Str} {D : Addr} {xs : List V} {ws : List T3} (h : BkAt H kvs L) (hk : KpP ws) (hD : H D = some (.lst xs)) (hP : Pl H xs ws) : BkAt H (putK kvs (.inr z) (.ref D)) (setB L z ws) := by
  intro y
  rw [valV_put]
  unfold setB
  by_cases e : y = z
  · rw [if_pos e, if_pos (by rw [e])]
    refine ⟨(fun k => nomatch k), fun us k => ?_⟩
    cases k
    exact ⟨hk, D, xs, rfl, hD, hP⟩
  · rw [if_neg e, if_neg (fun k => e (Sum.inr.inj k))]
    exact h y
def Dsk (C : Addr) (H : Hp) (d pd : Addr) (n : Nat) (L : Book) : Prop := (∃ dx, H d = some (.ins C dx [("plans", .ref pd)])) ∧ ∃ kvs, H pd = some (.dK kvs) ∧ kvs.length ≤ n ∧ BkAt H kvs L
theorem Dsk.same {C : Addr} {H H' : Hp} {d pd : Addr} {n : Nat} {L : Book} (h : Dsk C H d pd n L) (g : Same H H') : Dsk C H' d pd n L := by
  obtain ⟨⟨dx, hd⟩, kvs, hp, hl, hb⟩ := h
  exact ⟨⟨dx, g _ _ hd⟩, kvs, g _ _ hp, hl, hb.by (fun b xs e => g _ _ e) fun b xs e => g _ _ e⟩
structure DkTx (K : PySem.W.Frag) (C : Addr) : Prop where
  cl : Cls K C
  nP : NoAttr K C "plans"
def sp_dinit (C : Addr) : Sp := fun vs H Q _ => ∃ (x dx : Addr), vs = [.ref x] ∧ H x = some (.ins C dx []) ∧ ∀ pd H', Dsk C H' x pd 0 (fun _ => none) → H pd = none → (∀ b o, b ≠ x → H b = some o → H' b = some o) → Q .non H'
theorem h_dinit {C : Addr} (X : DkTx K C) (T : TM K C "__init__" "Desk.__init__" s_Desk___init__) : HasM P w K mg base 1 C "__init__" ["self"] (sp_dinit C) := by
  refine T.has sc_Desk___init__ (fun _ _ _ _ _ _ us hl => match us, hl with | [_], _ => rfl) (fun vs H Q E h => ?_) (fun f cdv A outer s H vs Q E hr h => ?_)
  · obtain ⟨x, dx, rfl, _⟩ := h
    rfl
  obtain ⟨x, dx, rfl, hx, q⟩ := h
  refine ⟨_, (pss_one (ps_fld (pv 0) pe_dnewK rfl)), ?_⟩
  walk_at "wpd"
  intro p np
  have nx : x ≠ p := ne_of_none hx np
  have gp := same_new np (.dK [])
  refine ⟨x, C, dx, [], rfl, gp _ _ hx, X.cl, X.nP, by decide, q p _ ⟨⟨dx, upd_same⟩, [], by rw [upd_ne (Ne.symm nx), upd_same], Nat.le_refl _, fun z => ⟨fun _ => rfl, fun ws e => nomatch e⟩⟩ np fun b o hb e => ?_⟩
  rw [upd_ne hb]
  exact gp _ _ e
def sp_plan_by (K : PySem.W.Frag) (C N : Addr) : Sp := fun vs H Q E => ∃ (d pd : Addr) (z : Str) (n : Nat) (L : Book), vs = [.ref d, .str z] ∧ Dsk C H d pd n L ∧ (L z = none → ∀ x, H x = none → E (.ref N) (some x) H) ∧ ∀ ws D xs, L z = some ws → KpP ws → H D = some (.lst xs) → Pl H xs ws → Q (.ref D) H
theorem h_plan_by {C c_NoName : Addr} {bm : List Value} (X : DkTx K C) (T : TM K C "plan_by" "Desk.plan_by" s_Desk_plan_by) (O_NoName : OX K mg "NoName" c_NoName bm) : HasMX P w K mg base 1 C "plan_by" ["self", "name"] (sp_plan_by K C c_NoName) := by
  refine T.hasX sc_Desk_plan_by (fun _ _ _ _ _ _ us hl => match us, hl with | [_, _], _ => rfl) (fun vs H Q E h => ?_) (fun f cdv A outer s H vs Q E hr h => ?_)
  · obtain ⟨d, pd, z, n, L, rfl, _⟩ := h
    rfl
  obtain ⟨d, pd, z, n, L, rfl, ⟨⟨dx, hd⟩, kvs, hp, hl, hb⟩, qx, q⟩ := h
  refine ⟨_, (pss_cons (ps_if (pt_cmp (pc_dnotin (hu_of hr) (pv 1) (pe_fld (pv 0) rfl))) (pss_one (ps_raise O_NoName rfl throwX (pa_cons pe_str pa_nil))) pss_nil) (pss_one (ps_ret (pe_dget (hu_of hr) (pe_fld (pv 0) rfl) (pv 1) (fun _ _ => rfl))))), ?_⟩
  walk_at "wpd"
  have dg := DGet.k (k := .inr z) hp
  refine ⟨d, C, dx, _, .ref pd, rfl, hd, X.cl, X.nP, rfl, pd, _, rfl, dg, fun c => ?_, fun c => ?_⟩
  · cases e : L z with
    | none => exact ⟨by decide, fun x hx => qx e x hx⟩
    | some ws =>
      obtain ⟨_, D, xs, e1, _⟩ := (hb z).2 ws e
      rw [e1] at c
      cases c
  · cases e : L z with
    | none => exact absurd (by rw [(hb z).1 e]; rfl) c
    | some ws =>
      obtain ⟨k, D, xs, e1, e2, e3⟩ := (hb z).2 ws e
      rw [e1] at dg
      exact ⟨d, C, dx, _, .ref pd, rfl, hd, X.cl, X.nP, rfl, pd, .ref D, rfl, dg, q ws D xs e k e2 e3⟩
def ansT : Option Int → Str
  | none => "never"
  | some n => Str.ofString (toString n)
def sp_turn_answer : Sp := fun vs H Q _ => ∃ r : Option Int, vs = [oV r] ∧ (∀ n, r = some n → n.natAbs.log2 < 1920) ∧ Q (.str (ansT r)) H
theorem h_turn_answer (T : TF K mg "turn_answer" s_turn_answer) (m_str : mg "str" = none) : Has P w K mg base 1 "turn_answer" ["turn"] sp_turn_answer := by
  refine T.has sc_turn_answer (fun _ _ _ _ _ _ us hl => match us, hl with | [_], _ => rfl) (fun vs H Q E h => ?_) (fun f cdv A outer s H vs Q E hr h => ?_)
  · obtain ⟨r, rfl, _⟩ := h
    rfl
  obtain ⟨r, rfl, hz, q⟩ := h
  refine ⟨_, (pss_one (ps_ret (pe_ifExp (pt_cmpR op_isN (pv 0) pe_non (nomark _)) pe_str (pe_callTy call_str_int rfl m_str (by decide +kernel) (pa_cons (pv 0) pa_nil))))), ?_⟩
  walk_at "wpd"
  cases r with
  | none => exact ⟨fun _ => q, fun c => absurd rfl c⟩
  | some n => exact ⟨(fun c => nomatch c), fun _ => ⟨n, rfl, hz n rfl, q⟩⟩
def planL : List Nat := [112, 108, 97, 110]
def awakeL : List Nat := [97, 119, 97, 107, 101]
def meetL : List Nat := [109, 101, 101, 116]
theorem planL_tx : Str.ofString "plan" = tx planL := by decide +kernel
theorem awakeL_tx : Str.ofString "awake" = tx awakeL := by decide +kernel
theorem meetL_tx : Str.ofString "meet" = tx meetL := by decide +kernel

def sp_read_number : Sp := fun vs H Q _ => ∃ n : Int, vs = [.str (tx (dg n))] ∧ DgOk n ∧ ∀ H', Same H H' → Q (.int n) H'
theorem h_read_numberQ (T : TF K mg "read_number" s_read_number) (m_int : mg "int" = none) (c_MOST_FIGURES : CI mg "MOST_FIGURES" 100) (G_is_figures : Has P w K mg base 1 "is_figures" ["text", "most"] sp_is_figM) : Has P w K mg base 2 "read_number" ["text"] sp_read_number := by
  refine T.has sc_read_number (fun _ _ _ _ _ _ us hl => match us, hl with | [_], _ => rfl) (fun vs H Q E h => ?_) (fun f cdv A outer s H vs Q E hr h => ?_)
  · obtain ⟨n, rfl, _⟩ := h
    rfl
  obtain ⟨n, rfl, d, q⟩ := h
  refine ⟨_, (pss_cons (ps_if (pt_not (pt_val (pe_def (G_is_figures.mono (by first | decide | omega)) hr (pa_cons (pv 0) (pa_cons (pe_ci rfl c_MOST_FIGURES) pa_nil))) (fun _ => rfl))) (pss_one ps_never) pss_nil) (pss_one (ps_ret (pe_callTy call_int_text rfl m_int (by decide +kernel) (pa_cons (pv 0) pa_nil))))), ?_⟩
  walk_at "wp"
  have tl := tx_len (dg n)
  have ln := d.len
  refine ⟨dg n, 100, rfl, ⟨by omega, fun x hx => by have := d.all x hx; omega⟩, fun H1 g1 => ?_⟩
  have ef : figM 100 (dg n) = true := figs_dg d
  rw [ef]
  walk_at "wp"
  have e := intText_digits (x := tx (dg n)) (by rw [tx_list]; exact d.all) (by rw [tx_list]; exact d.ne) (by omega)
  rw [tx_list, d.val] at e
  exact ⟨_, n, rfl, e, by omega, q _ g1⟩

def flds (l : List Nat) (i : Nat) : List (Str × V) := [("text", .str (tx l)), ("place", .int (i : Int))]
theorem fld_text (l : List Nat) (i : Nat) : (flds l i).lookup ("text" : Str) = some (.str (tx l)) := by
  unfold flds
  rfl
theorem fld_place (l : List Nat) (i : Nat) : (flds l i).lookup ("place" : Str) = some (.int (i : Int)) := by
  unfold flds
  rfl
theorem fld_no {l : List Nat} {i : Nat} {m : Str} (h : (m == ("text" : Str)) = false := by decide +kernel) (k : (m == ("place" : Str)) = false := by decide +kernel) : (flds l i).lookup m = none := by
  unfold flds
  simp only [List.lookup, h, k]
theorem fld_put (l : List Nat) (i j : Nat) : putF ("place" : Str) (.int (j : Int)) (flds l i) = flds l j := by
  unfold flds putF
  rw [if_neg (by decide +kernel)]
  unfold putF
  rw [if_pos rfl]
def RdAt (C : Addr) (H : Hp) (a : Addr) (l : List Nat) (i : Nat) : Prop := ∃ dx, H a = some (.ins C dx (flds l i))
structure Rd (C : Addr) (H H' : Hp) (a : Addr) (l : List Nat) (i : Nat) : Prop where
  at_ : RdAt C H' a l i
  same : ∀ b o, b ≠ a → H b = some o → H' b = some o
theorem Rd.upd {C : Addr} {H : Hp} {a dx : Addr} {l : List Nat} {i : Nat} : Rd C H (upd H a (.ins C dx (flds l i))) a l i := ⟨⟨dx, upd_same⟩, fun b o hb e => by rw [upd_ne hb]; exact e⟩
theorem Rd.trans {C : Addr} {H H1 H2 : Hp} {a : Addr} {l : List Nat} {i j : Nat} (g : Rd C H H1 a l i) (h : Rd C H1 H2 a l j) : Rd C H H2 a l j := ⟨h.at_, fun b o hb e => h.same b o hb (g.same b o hb e)⟩
theorem Rd.free {C : Addr} {H H1 : Hp} {a b : Addr} {l : List Nat} {i : Nat} (g : Rd C H H1 a l i) (h : H1 b = none) (hb : b ≠ a) : H b = none := by
  cases e : H b with
  | none => rfl
  | some o => rw [g.same b o hb e] at h; cases h
theorem Rd.new {C : Addr} {H H1 : Hp} {a p : Addr} {l : List Nat} {i : Nat} (g : Rd C H H1 a l i) (h : H1 p = none) (o : HO) : Rd C H (L2.upd H1 p o) a l i := by
  obtain ⟨dx, e⟩ := g.at_
  refine ⟨⟨dx, by rw [upd_ne (ne_of_none e h)]; exact e⟩, fun b o' hb e' => ?_⟩
  have := g.same b o' hb e'
  rw [upd_ne (ne_of_none this h)]
  exact this
theorem Rd.write {C : Addr} {H H1 : Hp} {a D : Addr} {l : List Nat} {i : Nat} (g : Rd C H H1 a l i) (n : H D = none) (h : D ≠ a) (o : HO) : Rd C H (L2.upd H1 D o) a l i := by
  obtain ⟨dx, e⟩ := g.at_
  refine ⟨⟨dx, by rw [upd_ne (Ne.symm h)]; exact e⟩, fun b o' hb e' => ?_⟩
  rw [upd_ne (ne_of_none e' n)]
  exact g.same b o' hb e'
structure RdTx (K : PySem.W.Frag) (C : Addr) : Prop where
  cl : Cls K C
  nT : NoAttr K C "text"
  nP : NoAttr K C "place"
def sp_passes (C : Addr) : Sp := fun vs H Q _ => ∃ (a : Addr) (l y : List Nat) (i : Nat), vs = [.ref a, .str (tx y)] ∧ RdAt C H a l i ∧ l.length ≤ 100000 ∧ i ≤ l.length ∧ y.length ≠ 0 ∧ y.length ≤ 10 ∧ (¬ (l.drop i).take y.length = y → Q (.bl false) H) ∧ ((l.drop i).take y.length = y → ∀ H', Rd C H H' a l (i + y.length) → Q (.bl true) H')
theorem h_passes {C : Addr} (X : RdTx K C) (T : TM K C "passes" "PaperReader.passes" s_PaperReader_passes) (m_len : mg "len" = none) : HasM P w K mg base 1 C "passes" ["self", "signs"] (sp_passes C) := by
  refine T.has sc_PaperReader_passes (fun _ _ _ _ _ _ us hl => match us, hl with | [_, _], _ => rfl) (fun vs H Q E h => ?_) (fun f cdv A outer s H vs Q E hr h => ?_)
  · obtain ⟨a, l, y, i, rfl, _⟩ := h
    rfl
  obtain ⟨a, l, y, i, rfl, ⟨dx, hd⟩, ll, li, y0, y1, q0, q1⟩ := h
  refine ⟨_, (pss_cons (ps_if (pt_not (pt_val (pe_bm PySem.F.plainAttrs_str PySem.F.slot_str_startswith PySem.F.type_str_startswith mt_startsF (pe_fld (pv 0) rfl) (pa_cons (pv 1) (pa_cons (pe_fld (pv 0) rfl) pa_nil))) (fun _ => rfl))) (pss_one (ps_ret pe_bl)) pss_nil) (pss_cons (ps_fldaug (pv 0) (pe_callB call_len_str rfl m_len PySem.boot_len (pa_cons (pv 1) pa_nil)) in_add) (pss_one (ps_ret pe_bl)))), ?_⟩
  walk_at "wp"
  have fi : PySem.fromIndex (tx l).length (i : Int) = i := by
    unfold PySem.fromIndex
    rw [if_neg (by omega)]
    omega
  refine ⟨a, C, dx, _, _, rfl, hd, X.cl, X.nT, fld_text l i, rfl, a, C, dx, _, _, rfl, hd, X.cl, X.nP, fld_place l i, _, _, _, rfl, rfl, ?_⟩
  rw [fi, sub_at l y i y0]
  refine ⟨fun c => q0 (of_decide_eq_false c), fun c => ?_⟩
  have c' : (l.drop i).take y.length = y := by
    rw [Bool.not_eq_false] at c
    exact of_decide_eq_true c
  refine ⟨a, C, dx, _, _, rfl, hd, X.cl, X.nP, fld_place l i, tx y, rfl, by rw [tx_len]; omega, _, _, rfl, rfl, dx, _, hd, by show 2 < 1000; decide, ?_⟩
  have e : (i : Int) + ((tx y).length : Int) = ((i + y.length : Nat) : Int) := by rw [tx_len]; omega
  rw [e, fld_put]
  exact q1 c' _ Rd.upd
theorem fig73 {c : Nat} : (Builtin.Str.occurrences (Str.ofString "0123456789") ⟨#[c]⟩ 0 (Str.ofString "0123456789").length 1).isEmpty = false ↔ 48 ≤ c ∧ c ≤ 57 := by
  have h := StrLaws.found_one (Str.ofString "0123456789") c
  have el : (Str.ofString "0123456789").cps.toList = [48, 49, 50, 51, 52, 53, 54, 55, 56, 57] := by decide +kernel
  rw [el] at h
  rw [← Bool.not_eq_true', h, decide_eq_true_eq]
  simp
  omega
def noFig (r : List Nat) : Prop := ∀ c, r[0]? = some c → ¬ (48 ≤ c ∧ c ≤ 57)
def sp_nnum (C : Addr) : Sp := fun vs H Q _ => ∃ (a : Addr) (l r : List Nat) (i : Nat) (n : Int), vs = [.ref a] ∧ RdAt C H a l i ∧ l.length ≤ 100000 ∧ l.drop i = dg n ++ r ∧ DgOk n ∧ noFig r ∧ ∀ H', Rd C H H' a l (i + (dg n).length) → Q (.int n) H'
theorem h_next_number {C : Addr} (X : RdTx K C) (T : TM K C "next_number" "PaperReader.next_number" s_PaperReader_next_number) (m_len : mg "len" = none) (c_FIGURES : CS mg "FIGURES" "0123456789") (G_read_number : Has P w K mg base 2 "read_number" ["text"] sp_read_number) : HasM P w K mg base 3 C "next_number" ["self"] (sp_nnum C) := by
  refine T.has sc_PaperReader_next_number (fun _ _ _ _ _ _ us hl => match us, hl with | [_], _ => rfl) (fun vs H Q E h => ?_) (fun f cdv A outer s H vs Q E hr h => ?_)
  · obtain ⟨a, l, r, i, n, rfl, _⟩ := h
    rfl
  obtain ⟨a, l, r, i, n, rfl, hd, ll, el, dk, nf, q⟩ := h
  have hd' := hd
  obtain ⟨dx, hd⟩ := hd
  refine ⟨_, (pss_cons (ps_set (i := 1) sc_PaperReader_next_number.nd rfl (Or.inl rfl) (pe_fld (pv 0) rfl)) (pss_cons (ps_cut (ps_while PassesOwn.never (PW.pt (pw_and (pt_cmpR op_lt (pe_fld (pv 0) rfl) (pe_callB call_len_str rfl m_len PySem.boot_len (pa_cons (pe_fld (pv 0) rfl) pa_nil)) (nomark _)) (pw_and1 (pt_cmpR op_in_str (pe_ix ix_str (pe_fld (pv 0) rfl) (pe_fld (pv 0) rfl) (fun _ _ => rfl)) (pe_cs rfl c_FIGURES) rfl)))) (pss_one (ps_fldaug (pv 0) pe_int in_add)))) (pss_one (ps_ret (pe_def (G_read_number.mono (by first | decide | omega)) hr (pa_cons (pe_slice sl_str (pe_fld (pv 0) rfl) (po_some (pv 1)) (po_some (pe_fld (pv 0) rfl))) pa_nil)))))), ?_⟩
  walk_at "wp"
  have ld := congrArg List.length el
  rw [List.length_drop, List.length_append] at ld
  have tl := tx_len l
  have n1 := List.length_pos_iff.mpr dk.ne
  have at_ : ∀ j : Nat, (l.drop i)[j]? = l[i + j]? := fun j => by rw [List.getElem?_drop]
  refine ⟨a, C, dx, _, _, rfl, hd, X.cl, X.nP, fld_place l i, ?_⟩
  refine ⟨fun σ H' => σ = [some (.ref a), some (.int (i : Int))] ∧ Rd C H H' a l (i + (dg n).length), ?_, ?_⟩
  · obtain ⟨W, hW⟩ : ∃ W : Nat → St → Hp → Prop, W = fun m σ H' => ∃ j : Nat, σ = [some (.ref a), some (.int (i : Int))] ∧ Rd C H H' a l (i + j) ∧ j ≤ (dg n).length ∧ m = (dg n).length - j := ⟨_, rfl⟩
    refine ⟨W, ⟨_, by rw [hW]; exact ⟨0, rfl, ⟨hd', fun b o _ e => e⟩, Nat.zero_le _, rfl⟩⟩, fun m σ H' h => ?_⟩
    rw [hW] at h
    obtain ⟨j, rfl, g, hj, rfl⟩ := h
    obtain ⟨dy, he⟩ := g.at_
    walk_at "wp"
    refine ⟨a, C, dy, _, _, rfl, he, X.cl, X.nP, fld_place l (i + j), ?_⟩
    walk_at "wp"
    refine ⟨a, C, dy, _, _, rfl, he, X.cl, X.nT, fld_text l (i + j), tx l, rfl, by omega, fun c => ?_, fun c => ?_⟩
    · have c' : i + j < l.length := by omega
      refine ⟨a, C, dy, _, _, rfl, he, X.cl, X.nT, fld_text l (i + j), a, C, dy, _, _, rfl, he, X.cl, X.nP, fld_place l (i + j), _, _, l[i + j], rfl, rfl, by rw [tl]; show _ ≤ 16777216; omega, by rw [tx_list]; exact atI_nat (List.getElem?_eq_getElem c'), _, _, rfl, rfl, ?_⟩
      have gj : (dg n ++ r)[j]? = some l[i + j] := by rw [← el, at_, List.getElem?_eq_getElem c']
      refine ⟨fun z => ⟨_, fun _ _ h => h, a, C, dy, _, _, rfl, he, X.cl, X.nP, fld_place l (i + j), _, _, rfl, rfl, dy, _, he, by show 2 < 1000; decide, (dg n).length - (j + 1), ?_, ?_⟩, fun z => ?_⟩
      · have fg := fig73.mp z
        by_cases k : j < (dg n).length
        · omega
        · have ej : j = (dg n).length := by omega
          have gk : r[0]? = some l[i + j] := by
            rw [List.getElem?_append_right (by omega), show j - (dg n).length = 0 by omega] at gj
            exact gj
          exact absurd fg (nf _ gk)
      · have e : ((i + j : Nat) : Int) + 1 = ((i + (j + 1) : Nat) : Int) := by omega
        rw [e, fld_put, hW]
        have fg := fig73.mp z
        refine ⟨j + 1, rfl, g.trans Rd.upd, ?_, rfl⟩
        by_cases k : j < (dg n).length
        · omega
        · have ej : j = (dg n).length := by omega
          have gk : r[0]? = some l[i + j] := by
            rw [List.getElem?_append_right (by omega), show j - (dg n).length = 0 by omega] at gj
            exact gj
          exact absurd fg (nf _ gk)
      · by_cases k : j < (dg n).length
        · rw [List.getElem?_append_left k] at gj
          exact absurd (fig73.mpr (dk.all _ (List.mem_of_getElem? gj))) z
        · have ej : j = (dg n).length := by omega
          rw [ej] at g
          exact g
    · have ej : j = (dg n).length := by omega
      rw [ej] at g
      exact g
  rintro σ H' ⟨rfl, g⟩
  obtain ⟨dy, he⟩ := g.at_
  walk_at "wp"
  refine ⟨a, C, dy, _, _, rfl, he, X.cl, X.nT, fld_text l _, ?_⟩
  walk_at "wp"
  refine ⟨a, C, dy, _, _, rfl, he, X.cl, X.nP, fld_place l _, _, rfl, tx l, rfl, by rw [tl]; show _ ≤ 16777216; omega, ?_⟩
  have es : Txt.slice (tx l) (some (i : Int)) (some ((i + (dg n).length : Nat) : Int)) = tx (dg n) := by
    rw [slice_at (by omega) (by omega), el]
    have : i + (dg n).length - i = (dg n).length := by omega
    rw [this, List.take_left]
  rw [es]
  exact ⟨n, rfl, dk, fun H2 g2 => q H2 (g.trans ⟨⟨dy, g2 _ _ he⟩, fun b o _ e => g2 b o e⟩)⟩
theorem Rd.tup {C : Addr} {H H' : Hp} {a : Addr} {l : List Nat} {i j : Nat} (g : Rd C H H' a l j) (ha : RdAt C H a l i) (b : Addr) (xs : List V) (e : H b = some (.tup xs)) : H' b = some (.tup xs) := by
  obtain ⟨dx, ha⟩ := ha
  exact g.same b _ (fun k => by rw [k, ha] at e; cases e) e
theorem Rd.lst {C : Addr} {H H' : Hp} {a : Addr} {l : List Nat} {i j : Nat} (g : Rd C H H' a l j) (ha : RdAt C H a l i) (b : Addr) (xs : List V) (e : H b = some (.lst xs)) : H' b = some (.lst xs) := by
  obtain ⟨dx, ha⟩ := ha
  exact g.same b _ (fun k => by rw [k, ha] at e; cases e) e
def sp_rinit (C : Addr) : Sp := fun vs H Q _ => ∃ (x dx : Addr) (l : List Nat), vs = [.ref x, .str (tx l)] ∧ H x = some (.ins C dx []) ∧ ∀ H', Rd C H H' x l 0 → Q .non H'
theorem h_rinit {C : Addr} (X : RdTx K C) (T : TM K C "__init__" "PaperReader.__init__" s_PaperReader___init__) : HasM P w K mg base 1 C "__init__" ["self", "text"] (sp_rinit C) := by
  refine T.has sc_PaperReader___init__ (fun _ _ _ _ _ _ us hl => match us, hl with | [_, _], _ => rfl) (fun vs H Q E h => ?_) (fun f cdv A outer s H vs Q E hr h => ?_)
  · obtain ⟨x, dx, l, rfl, _⟩ := h
    rfl
  obtain ⟨x, dx, l, rfl, hx, q⟩ := h
  refine ⟨_, (pss_cons (ps_fld (pv 0) (pv 1) rfl) (pss_one (ps_fld (pv 0) pe_int rfl))), ?_⟩
  walk_at "wp"
  refine ⟨x, C, dx, [], rfl, hx, X.cl, X.nT, by decide, x, C, dx, _, rfl, upd_same, X.cl, X.nP, by show 1 < 1000; decide, ?_⟩
  have e : putF ("place" : Str) (.int 0) (putF ("text" : Str) (.str (tx l)) []) = flds l 0 := by
    show (if ("text" : Str) = "place" then _ else (("text" : Str), V.str (tx l)) :: putF ("place" : Str) (.int 0) []) = _
    rw [if_neg (by decide +kernel)]
    rfl
  rw [e]
  refine q _ ⟨⟨dx, upd_same⟩, fun b o hb e => ?_⟩
  rw [upd_ne hb, upd_ne hb]
  exact e

theorem grid_meet {g k : Int} (k1 : 1 ≤ k) (kg : k ≤ g) (d : Int) : (∃ x, awP (g * g, 0, g) x ∧ awP (k, 0, 1) (x - d)) ∧ ∃ x, awP (k, 0, 1) x ∧ awP (g * g, 0, g) (x - d) := by
  have le : g ≤ g * g := by have := Int.mul_le_mul (show 1 ≤ g by omega) (Int.le_refl g) (by omega) (by omega); omega
  have h1 : Wk (g * g, 0, g) := by refine ⟨?_, ?_, ?_, ?_, ?_⟩ <;> dsimp only <;> omega
  have h2 : Wk (k, 0, 1) := by refine ⟨?_, ?_, ?_, ?_, ?_⟩ <;> dsimp only <;> omega
  refine ⟨meet_all h1 h2 ?_ d, meet_all h2 h1 ?_ d⟩
  · have := gcdI_le_left (a := k) (g * g) (by omega)
    rw [gcdI_comm] at this
    dsimp only
    omega
  · have := gcdI_le_left (a := k) (g * g) (by omega)
    dsimp only
    omega
theorem grid_next {l r d t L : Int} (l1 : 1 ≤ l) (r1 : 1 ≤ r) (hL : lcms [max l r * max l r, min l r] = L) {o : Option Int} (h : NextOf (TogP [(l, 0, 1), (l * l, 0, l)] [(r, 0, 1), (r * r, 0, r)] d) t o) : ∃ x, o = some x ∧ t ≤ x ∧ x < t + L ∧ TogP [(l, 0, 1), (l * l, 0, l)] [(r, 0, 1), (r * r, 0, r)] d x := by
  have pos : ∀ x ∈ [max l r * max l r, min l r], 1 ≤ x := fun x hx => by
    have := Int.mul_le_mul (show 1 ≤ max l r by omega) (show 1 ≤ max l r by omega) (by omega) (by omega)
    simp only [List.mem_cons, List.not_mem_nil, or_false] at hx
    rcases hx with rfl | rfl <;> omega
  have L0 := lcms_pos pos
  have d1 := dvd_lcms pos (max l r * max l r) (by simp)
  have d2 := dvd_lcms pos (min l r) (by simp)
  rw [hL] at L0 d1 d2
  by_cases c : l ≤ r
  · rw [show max l r = r by omega] at d1
    rw [show min l r = l by omega] at d2
    obtain ⟨x0, a, b⟩ := (grid_meet l1 c d).2
    exact next_lt (u := (l, 0, 1)) (v := (r * r, 0, r)) (by simp) (by simp) a b (by omega) d2 d1 h
  · rw [show max l r = l by omega] at d1
    rw [show min l r = r by omega] at d2
    obtain ⟨x0, a, b⟩ := (grid_meet r1 (show r ≤ l by omega) d).1
    exact next_lt (u := (l * l, 0, l)) (v := (r, 0, 1)) (by simp) (by simp) a b (by omega) d1 d2 h

theorem lcms2 {a b : Int} (ha : 1 ≤ a) : lcms [a, b] = a * b / gcdI a b := by
  have e : lcmI 1 a = a := by
    rw [lcmI_eq (by decide) ha]
    show ((Nat.lcm 1 a.natAbs : Nat) : Int) = a
    rw [Nat.lcm_one_left]
    omega
  show lcmI (lcmI 1 a) b = _
  rw [e, lcmI_alt]
def sp_grid_paper : Sp := fun vs H Q _ => ∃ a b : Int, vs = [.int a, .int b] ∧ ∀ (t : Addr) (H' : Hp), Same H H' → H' t = some (.tup [.str "in", .int (if a < b then 1 else 2)]) → Q (.ref t) H'
theorem h_grid_paper (T : TF K mg "grid_paper" s_grid_paper) : Has P w K mg base 1 "grid_paper" ["one", "other"] sp_grid_paper := by
  refine T.has sc_grid_paper (fun _ _ _ _ _ _ us hl => match us, hl with | [_, _], _ => rfl) (fun vs H Q E h => ?_) (fun f cdv A outer s H vs Q E hr h => ?_)
  · obtain ⟨a, b, rfl, _⟩ := h
    rfl
  obtain ⟨a, b, rfl, q⟩ := h
  refine ⟨_, (pss_one (ps_ret (pe_tup (pa_cons pe_str (pa_cons (pe_ifExp (pt_cmpR op_lt (pv 0) (pv 1) (nomark _)) pe_int pe_int) pa_nil))))), ?_⟩
  walk_at "wp"
  refine ⟨fun c p np => q p _ (same_new np _) ?_, fun c p np => q p _ (same_new np _) ?_⟩
  · rw [if_pos c]
    exact upd_same
  · rw [if_neg c]
    exact upd_same
def pickT (u v : T3) (i : Nat) : T3 := if i = 0 then u else v
theorem right_two {u0 u1 v0 v1 : T3} {i j : Nat} (i2 : i < 2) (j2 : j < 2) (hw : 1 ≤ (pickT u0 u1 i).1) (hg : gcdI (pickT u0 u1 i).1 (pickT v0 v1 j).1 ≤ (pickT u0 u1 i).2.2 + (pickT v0 v1 j).2.2 - 1) : rightB (shs [u0, u1] [v0, v1]) 1 0 (.inn ((i : Int) * 2 + j)) = true := by
  have e : (shs [u0, u1] [v0, v1]).getD ((i : Int) * 2 + j).toNat (1, 0, 1) = sh2 (pickT u0 u1 i) (pickT v0 v1 j) ∧ (shs [u0, u1] [v0, v1]).length = 4 := by
    rcases (show i = 0 ∨ i = 1 by omega) with rfl | rfl <;> rcases (show j = 0 ∨ j = 1 by omega) with rfl | rfl <;> exact ⟨rfl, rfl⟩
  unfold rightB
  rw [e.1, e.2]
  have g1 := sh2_pos (u := pickT u0 u1 i) (v := pickT v0 v1 j) hw
  have l : liesB (sh2 (pickT u0 u1 i) (pickT v0 v1 j)) 1 0 = true := by
    unfold liesB
    refine decide_eq_true ?_
    have e2 : (sh2 (pickT u0 u1 i) (pickT v0 v1 j)).2.2 = (sh2 (pickT u0 u1 i) (pickT v0 v1 j)).1 := if_neg (by omega)
    rw [e2, Int.sub_self]
    have gp : 0 < gcdI 1 (sh2 (pickT u0 u1 i) (pickT v0 v1 j)).1 := gcdI_pos (.inl (by decide))
    exact Int.emod_nonneg _ (by omega)
  rw [l]
  simp
  omega

end
end SMk92
namespace SMk92
open PySem L2 SM
section
variable {P : Program} {w : World} {K : PySem.W.Frag} {mg : Str → Option Value} {base : Heap}
local macro_rules | `(tactic| walk_at "wpd") => `(tactic| try simp only [tSeq_ap, tCGet_ap, iZipT_ap, tDGet_ap, tDIn_ap, tDNotIn_ap, sDPut_ap, tDNewK_ap, tNo_ap, tIfS_ap, tAsg_ap, gName_ap, tRet_ap, tRetN_ap, tNext_ap, tBreak_ap, tCont_ap, tDrop_ap, tC_ap, tVar_0, tVar_s, tOp_ap, tUn_ap, rI0_ap, rI_ap, rU_ap, rEq_int, rNe_int, tTest_ap, tB_ap, ex_bl, ex_ref, ex_int, tAnd_ap, tOr_ap, tNot_ap, tAndV_ap, tOrV_ap, tNotV_ap, tIf_ap, tNil_ap, tCons_ap, tTup_ap, tLst_ap, tCall_ap, tCB_ap, tChain_ap, tPar_ap, ex_two, tAug_ap, ipI_ap, tSl_ap, tNoPart_ap, tPart_ap, tBM_ap, tBM0_ap, tTrue_ap, gSub_ap, gCons_ap, gNil_ap, tFor_ap, iRng1_ap, iRng2_ap, iRngA_ap, iRng3_ap, iRngN_ap, iRevR_ap, tRng_ap, iList_ap, iTup_ap, iRev_ap, iZip_ap, iZip3_ap, iEnum_ap, iEnumT_ap, iStr_ap, tFmt_ap, jNil_ap, jCons_ap, tJoin_ap, tFld_ap, sFld_ap, sFldAug_ap, tMeth_ap, tMake_ap, tListRev_ap, tMinD_ap, tMaxD_ap, tComp_ap, ite_and, L2.start, cxOf_K, cxComp_K, cxCompX_K, List.map_cons, List.map_nil, List.length_cons, List.length_nil, List.replicate, List.cons_append, List.nil_append, List.append_nil, List.set_cons_zero, List.set_cons_succ, decide_eq_true_eq, Bool.not_eq_true', decide_eq_false_iff_not, Bool.not_eq_eq_eq_not, Bool.not_true, Bool.not_false, sizeLine_eq, oV, reduceCtorEq, isI_ii, isI_ib, isI_ni, isI_bb, Nat.reduceAdd, Nat.reduceSub, Nat.reduceLeDiff, Nat.zero_add, true_and, and_true, forall_const, Bool.false_eq_true, if_true, if_false, false_implies, true_implies, not_false_eq_true, not_true_eq_false, implies_true])
theorem pb_no (v : V) : List.lookup (Str.ofString "plan_by") [((Str.ofString "plans"), v)] = none := by
  rw [List.lookup_cons, show ((Str.ofString "plan_by") == (Str.ofString "plans")) = false by decide +kernel]
  rfl
def PPG : List Str := [Str.ofString "plan", Str.ofString "pair", Str.ofString "grid"]
theorem log_lt {n : Int} (h : n.natAbs < 2 ^ 1920) : n.natAbs.log2 < 1920 := by
  by_cases z : n.natAbs = 0
  · rw [z]; decide
  · exact (Nat.log2_lt z).mpr h
theorem tog_size {ws us : List T3} {d k x : Int} (h1 : KpP ws) (h2 : KpP us) (hk : k.natAbs < 2 ^ 400) (h : NextOf (TogP ws us d) k (some x)) : x.natAbs.log2 < 1920 := by
  obtain ⟨⟨u, mu, a1⟩, v, mv, a2⟩ := h.2.1
  have w1 := h1.1 u mu
  have w2 := h2.1 v mv
  have s1 := h1.2.1 u mu
  have s2 := h2.2.1 v mv
  have p1 := w1.1
  have p2 := w2.1
  obtain ⟨y, ey, y1, y2, _⟩ := next_lt mu mv a1 a2 (L := u.1 * v.1) (Int.mul_pos (by omega) (by omega)) (Int.dvd_mul_right _ _) (Int.dvd_mul_left _ _) h
  cases ey
  have m : u.1 * v.1 ≤ 2 ^ 900 * 2 ^ 900 := Int.mul_le_mul (by omega) (by omega) (by omega) (by decide +kernel)
  refine log_lt (Nat.lt_trans (m := 2 ^ 1801) ?_ (by decide +kernel))
  have e : (2 : Nat) ^ 1801 = 2 ^ 1800 + 2 ^ 1800 := by decide +kernel
  have e4 : (2 : Nat) ^ 400 < 2 ^ 1800 := by decide +kernel
  have ei : (2 : Int) ^ 900 * 2 ^ 900 = ((2 ^ 1800 : Nat) : Int) := by decide +kernel
  rw [ei] at m
  generalize (2 : Nat) ^ 1800 = B at *
  generalize (2 : Nat) ^ 400 = B4 at *
  omega
def KtOk (t : List Nat) (n : Int) : Prop := intText? (tx t) = some n ∧ t.length ≤ 640 ∧ n.natAbs < 2 ^ 400
theorem num_len {M : Int} (h0 : 0 ≤ M) (h1 : M < 10 ^ 600) : (Str.ofString (toString M)).length ≤ 600 := by
  obtain ⟨l, e, _, _, _, _, f⟩ := num_text h0
  rw [e, tx_len]
  exact f 599 h1

theorem take_w {c : Nat} {r : List Nat} : ∀ {p : List Nat}, c ∉ p → (p ++ c :: r).takeWhile (· != c) = p
  | [], _ => by simp
  | x :: xs, h => by
    have ih := take_w (c := c) (r := r) (p := xs) fun z => h (List.mem_cons_of_mem _ z)
    have ne : (x != c) = true := by simp; exact fun e => h (by simp [e])
    rw [List.cons_append, List.takeWhile_cons, ne]
    simp only [if_true]
    rw [ih]
theorem row_of {w v : List Nat} {ws : List (List Nat)} {f : List Str} (h1 : FORMSd.lookup (tx w) = some f) (hl : ws.length + 1 = f.length) (h2 : 32 ∉ w) (h3 : ∀ p ∈ (v :: ws).dropLast, 32 ∉ p) (hf : fitsB f (v :: ws) = true) : rowOf (glu 32 (w :: v :: ws)) = some (w :: v :: ws) := by
  have e1 : glu 32 (w :: v :: ws) = w ++ 32 :: glu 32 (v :: ws) := rfl
  have e2 : formOf (glu 32 (w :: v :: ws)) = some f := by
    unfold formOf
    rw [e1, take_w h2, h1]
  have e3 : splN 32 (glu 32 (w :: v :: ws)) f.length = w :: v :: ws := splN_glu _ _ (by simp) (by simp; omega) (fun p hp => by
    rw [List.dropLast_cons_of_ne_nil (by simp)] at hp
    rcases List.mem_cons.mp hp with rfl | hp
    · exact h2
    · exact h3 p hp) (fun z => by simp at z; omega)
  unfold rowOf
  rw [e2]
  show (if (splN 32 (glu 32 (w :: v :: ws)) f.length).length = f.length + 1 ∧ fitsB f (splN 32 (glu 32 (w :: v :: ws)) f.length).tail = true then some (splN 32 (glu 32 (w :: v :: ws)) f.length) else none) = _
  rw [e3, if_pos ⟨by simp; omega, hf⟩]
theorem nm_free {l : List Nat} (h : nmB l = true) : 32 ∉ l := fun z => by
  unfold nmB at h
  rw [Bool.and_eq_true, Bool.and_eq_true, List.all_eq_true] at h
  have := of_decide_eq_true (h.2.2 32 z)
  omega
theorem nm_small {l : List Nat} (h : nmB l = true) : l.length ≤ 8 ∧ ∀ x ∈ l, x < 128 := by
  unfold nmB at h
  rw [Bool.and_eq_true, Bool.and_eq_true, List.all_eq_true, decide_eq_true_eq] at h
  exact ⟨of_decide_eq_true h.2.1, fun x hx => by have := of_decide_eq_true (h.2.2 x hx); omega⟩
theorem sg_free {n : Int} (h : SgOk n) : 32 ∉ dg n := fun z => by
  have := h.sg 32 z
  omega
theorem sg_small {n : Int} (h : SgOk n) : ∀ x ∈ dg n, x < 128 := fun x hx => by
  have := h.sg x hx
  omega
theorem fit_name {l : List Nat} : fitB "name" l = nmB l := rfl
theorem fit_turn {l : List Nat} : fitB "turn" l = turnB l := rfl
theorem fit_text {l : List Nat} : fitB "text" l = true := rfl
theorem row_meet {n1 n2 : List Nat} {k1 k2 : Int} (h1 : nmB n1 = true) (h2 : nmB n2 = true) (hk1 : SgOk k1) (hk2 : SgOk k2) : rowOf (glu 32 [meetL, n1, n2, dg k1, dg k2]) = some [meetL, n1, n2, dg k1, dg k2] :=
  row_of (f := ["name", "name", "turn", "turn"]) (by rfl) rfl (by decide) (fun p hp => by
    have : p = n1 ∨ p = n2 ∨ p = dg k1 := by simpa [List.dropLast] using hp
    rcases this with rfl | rfl | rfl
    · exact nm_free h1
    · exact nm_free h2
    · exact sg_free hk1) (by simp only [fitsB, fit_name, fit_turn, h1, h2, hk1.turn, hk2.turn]; rfl)
theorem kt_of {n : Int} (h0 : -(10 ^ 60) ≤ n) (h1 : n ≤ 10 ^ 60) : KtOk (dg n) n := by
  have e : (10 : Int) ^ 60 < 2 ^ 400 := by decide +kernel
  have e2 : (10 : Int) ^ 60 < 10 ^ 100 := by decide +kernel
  have ei : ((2 ^ 400 : Nat) : Int) = 2 ^ 400 := by rw [Int.natCast_pow]; rfl
  have s := sgOk (n := n) (by omega) (by omega)
  refine ⟨s.rd, by have := s.len; omega, ?_⟩
  rw [← ei] at e
  generalize (2 : Nat) ^ 400 = B at *
  omega

theorem has_toX {k : Nat} {x : Str} {ps : List Str} {sp : Sp} (h : Has P w K mg base k x ps sp) : HasX P w K mg base k x ps sp := by
  obtain ⟨f, fd, F, hb, hk, hm, _⟩ := h
  refine ⟨f, fd, ⟨F.len, fun A outer s H args us vs Q E hr e0 hbt hv z => PySem.codeAny_mono (F.run A outer s H args us vs Q E hr e0 hbt hv z) fun r s' hq => ?_⟩, hb, hk, hm⟩
  cases r with
  | error e => exact False.elim hq
  | ok fl => cases fl <;> exact hq
theorem hasMX_quiet {k : Nat} {C : Addr} {x : Str} {ps : List Str} {sp sp' : Sp} (h : HasMX P w K mg base k C x ps sp) (i : ∀ vs H Q E, sp' vs H Q E → sp vs H Q fun _ _ _ => False) : HasM P w K mg base k C x ps sp' := by
  obtain ⟨f, fd, F, hb, hm⟩ := h
  refine ⟨f, fd, ⟨fun vs H Q E z => F.len vs H Q _ (i vs H Q E z), fun A outer s H args us vs Q E hr e0 hbt hv z => PySem.codeAny_mono (F.run A outer s H args us vs Q _ hr e0 hbt hv (i vs H Q E z)) fun r s' hq => ?_⟩, hb, hm⟩
  cases r with
  | error e =>
    obtain ⟨_, _, _, _, _, _, _, _, _, z⟩ := hq
    exact z.elim
  | ok fl => cases fl <;> exact hq
def sp_shown1 : Sp := fun vs H Q _ => ∃ (b : Addr) (k : Int), vs = [.ref b] ∧ H b = some (.tup [.str "in", .int k]) ∧ DgOk k ∧ Q (.str (tx (inL ++ dg k))) H
theorem h_shown1 (T : TF K mg "shown_paper" s_shown_paper) : Has P w K mg base 1 "shown_paper" ["paper"] sp_shown1 := by
  refine T.has sc_shown_paper (fun _ _ _ _ _ _ us hl => match us, hl with | [_], _ => rfl) (fun vs H Q E h => ?_) (fun f cdv A outer s H vs Q E hr h => ?_)
  · obtain ⟨b, k, rfl, _⟩ := h
    rfl
  obtain ⟨b, k, rfl, hb, dk, q⟩ := h
  refine ⟨_, (pss_cons (ps_set (i := 1) sc_shown_paper.nd rfl (Or.inl rfl) (pe_ix ix_tup (pv 0) pe_int (fun _ _ => rfl))) (pss_cons (ps_if (pt_cmpR op_eq (pe_ix ix_tup (pv 0) pe_int (fun _ _ => rfl)) pe_str (nomark _)) (pss_one (ps_ret (pe_join (pj_cons pe_str (pj_cons (pe_fmt (pv 1)) pj_nil))))) pss_nil) (pss_cons ps_never (pss_one ps_never)))), ?_⟩
  have l1 := dk.len
  have eE : Str.empty = tx [] := rfl
  have e1 : Str.empty ++ tx inL = tx inL := by rw [eE, tx_app]; rfl
  walk_at "wp"
  refine ⟨_, _, _, .int k, rfl, rfl, SqT.of hb, rfl, _, _, _, .str "in", rfl, rfl, SqT.of hb, rfl, rfl, _, rfl, fun _ => ?_, fun c => absurd (decide_eq_true rfl) c⟩
  rw [inL_tx]
  refine ⟨_, rfl, by rw [e1, tx_len]; decide, .inl ⟨k, rfl, dk.sz, _, rfl, ?_⟩⟩
  rw [dg_text, e1, tx_app, tx_len, List.length_append]
  have i3 : inL.length = 3 := rfl
  exact ⟨by omega, by omega, q⟩
def sp_npap1 (C : Addr) : Sp := fun vs H Q _ => ∃ (a : Addr) (n : Int), vs = [.ref a, .int 0] ∧ RdAt C H a (inL ++ dg n) 0 ∧ DgOk n ∧ ∀ (t : Addr) (H' : Hp), Rd C H H' a (inL ++ dg n) (inL ++ dg n).length → H' t = some (.tup [.str "in", .int n]) → Q (.ref t) H'
theorem h_npap1 {C : Addr} (cl_PaperReader : Cls K C) (T : TM K C "next_paper" "PaperReader.next_paper" s_PaperReader_next_paper) (G_PaperReader_passes : HasM P w K mg base 1 C "passes" ["self", "signs"] (sp_passes C)) (G_PaperReader_next_number : HasM P w K mg base 3 C "next_number" ["self"] (sp_nnum C)) : HasM P w K mg base 4 C "next_paper" ["self", "above"] (sp_npap1 C) := by
  refine T.has sc_PaperReader_next_paper (fun _ _ _ _ _ _ us hl => match us, hl with | [_, _], _ => rfl) (fun vs H Q E h => ?_) (fun f cdv A outer s H vs Q E hr h => ?_)
  · obtain ⟨a, n, rfl, _⟩ := h
    rfl
  obtain ⟨a, n, rfl, hd, dn, q⟩ := h
  have hd' := hd
  obtain ⟨dx, hd⟩ := hd
  have l1 := dn.len
  have i3 : inL.length = 3 := rfl
  have ll : (inL ++ dg n).length ≤ 100000 := by rw [List.length_append]; omega
  refine ⟨_, (pss_cons (ps_if (pt_val (pe_mth (pv 0) cl_PaperReader (G_PaperReader_passes.mono (by first | decide | omega)) hr (pa_cons pe_str pa_nil)) (fun _ => rfl)) (pss_one (ps_ret (pe_tup (pa_cons pe_str (pa_cons (pe_mth0 (pv 0) cl_PaperReader (G_PaperReader_next_number.mono (by first | decide | omega)) hr) pa_nil))))) pss_nil) (pss_cons ps_never (pss_cons ps_never (pss_cons ps_never (pss_cons ps_never (pss_one ps_never)))))), ?_⟩
  walk_at "wp"
  rw [inL_tx]
  refine ⟨a, dx, _, rfl, hd, fld_no, a, inL ++ dg n, inL, 0, rfl, hd', ll, Nat.zero_le _, by decide, by decide, fun c => absurd List.take_left c, fun c H1 g1 => ?_⟩
  walk_at "wp"
  have hd1 := g1.at_
  obtain ⟨d1, h1⟩ := g1.at_
  rw [Nat.zero_add] at g1 hd1
  refine ⟨a, d1, _, rfl, h1, fld_no, a, inL ++ dg n, [], inL.length, n, rfl, hd1, ll, by rw [List.append_nil]; exact List.drop_left, dn, (fun c e => by simp at e), fun H2 g2 t nt => ?_⟩
  refine q t _ ?_ upd_same
  have e : inL.length + (dg n).length = (inL ++ dg n).length := by rw [List.length_append]
  rw [e] at g2
  exact (g1.trans g2).new nt _
def sp_rpap1 (K : PySem.W.Frag) : Sp := fun vs H Q _ => ∃ n : Int, vs = [.str (tx (inL ++ dg n))] ∧ DgOk n ∧ ∀ (t : Addr) (H' : Hp), Same H H' → H' t = some (.tup [.str "in", .int n]) → Q (.ref t) H'
theorem h_rpap1 {C : Addr} (X : RdTx K C) (cl_PaperReader : Cls K C) (mk_PaperReader : PySem.W.makesIn K C = true) (kc_PaperReader : PySem.W.keepIn K (.ref C) = true) (mg_PaperReader : mg "PaperReader" = some (.ref C)) (T : TF K mg "read_paper" s_read_paper) (m_len : mg "len" = none) (G_PaperReader___init__ : HasM P w K mg base 1 C "__init__" ["self", "text"] (sp_rinit C)) (G_PaperReader_next_paper : HasM P w K mg base 4 C "next_paper" ["self", "above"] (sp_npap1 C)) : Has P w K mg base 5 "read_paper" ["text"] (sp_rpap1 K) := by
  refine T.has sc_read_paper (fun _ _ _ _ _ _ us hl => match us, hl with | [_], _ => rfl) (fun vs H Q E h => ?_) (fun f cdv A outer s H vs Q E hr h => ?_)
  · obtain ⟨n, rfl, _⟩ := h
    rfl
  obtain ⟨n, rfl, dn, q⟩ := h
  refine ⟨_, (pss_cons (ps_set (i := 1) sc_read_paper.nd rfl (Or.inl rfl) (pe_mk (G_PaperReader___init__.mono (by first | decide | omega)) mk_PaperReader kc_PaperReader hr rfl mg_PaperReader (pa_cons (pv 0) pa_nil))) (pss_cons (ps_set (i := 2) sc_read_paper.nd rfl (Or.inl rfl) (pe_mth (pv 1) cl_PaperReader (G_PaperReader_next_paper.mono (by first | decide | omega)) hr (pa_cons pe_int pa_nil))) (pss_cons (ps_if (pt_cmpR op_ne (pe_fld (pv 1) rfl) (pe_callB call_len_str rfl m_len PySem.boot_len (pa_cons (pv 0) pa_nil)) (nomark _)) (pss_one ps_never) pss_nil) (pss_one (ps_ret (pv 2)))))), ?_⟩
  have l1 := dn.len
  have i3 : inL.length = 3 := rfl
  walk_at "wp"
  intro x dx nx ndx hne
  refine ⟨x, dx, _, rfl, upd_same, fun H1 g1 => ⟨rfl, ?_⟩⟩
  have hd1 := g1.at_
  obtain ⟨d1, h1⟩ := g1.at_
  walk_at "wp"
  refine ⟨x, d1, _, rfl, h1, fld_no, x, n, rfl, hd1, dn, fun t H2 g2 ht => ?_⟩
  obtain ⟨d2, h2⟩ := g2.at_
  have S1 : Same H H1 := fun b o e => g1.same b o (ne_of_none e nx) (by rw [upd_ne (ne_of_none e nx), upd_ne (ne_of_none e ndx)]; exact e)
  have S2 : Same H H2 := fun b o e => g2.same b o (ne_of_none e nx) (S1 b o e)
  walk_at "wp"
  refine ⟨x, C, d2, _, _, rfl, h2, X.cl, X.nP, fld_place _ _, ?_⟩
  walk_at "wp"
  refine ⟨tx (inL ++ dg n), rfl, by rw [tx_len, List.length_append]; omega, ?_⟩
  rw [tx_len]
  exact ⟨fun c => absurd rfl c, fun _ => q t H2 S2 ht⟩
def gridL : List Nat := [103, 114, 105, 100]
def checkL : List Nat := [99, 104, 101, 99, 107]
theorem checkL_tx : Str.ofString "check" = tx checkL := by decide +kernel
def grd (k : Int) : List T3 := [(k, 0, 1), (k * k, 0, k)]
def sp_told_grid (K : PySem.W.Frag) : Sp := fun vs H Q _ => ∃ (W : Addr) (nm t : List Nat) (k : Int), vs = [.ref W] ∧ H W = some (.lst (([gridL, nm, t].map tx).map V.str)) ∧ intText? (tx t) = some k ∧ t.length ≤ 640 ∧ 1 ≤ k ∧ k < 2 ^ 400 ∧ ∀ (D : Addr) (xs : List V) (H' : Hp), Same H H' → H' D = some (.lst xs) → Pl H' xs (grd k) → Q (.ref D) H'
theorem h_told_grid (T : TF K mg "told_plan" s_told_plan) (m_int : mg "int" = none) (G_grid_plan : Has P w K mg base 1 "grid_plan" ["number"] sp_grid_plan) : Has P w K mg base 2 "told_plan" ["words"] (sp_told_grid K) := by
  refine T.has sc_told_plan (fun _ _ _ _ _ _ us hl => match us, hl with | [_], _ => rfl) (fun vs H Q E h => ?_) (fun f cdv A outer s H vs Q E hr h => ?_)
  · obtain ⟨W, nm, t, k, rfl, _⟩ := h
    rfl
  obtain ⟨W, nm, t, k, rfl, hW, hk, lt, k1, k2, q⟩ := h
  refine ⟨_, (pss_cons (ps_if (pt_cmpR op_eq (pe_ix ix_list (pv 0) pe_int (fun _ _ => rfl)) pe_str (nomark _)) (pss_one ps_never) pss_nil) (pss_cons (ps_if (pt_cmpR op_eq (pe_ix ix_list (pv 0) pe_int (fun _ _ => rfl)) pe_str (nomark _)) (pss_one ps_never) pss_nil) (pss_one (ps_ret (pe_def (G_grid_plan.mono (by first | decide | omega)) hr (pa_cons (pe_callTy call_int_text rfl m_int (by decide +kernel) (pa_cons (pe_ix ix_list (pv 0) pe_int (fun _ _ => rfl)) pa_nil)) pa_nil)))))), ?_⟩
  walk_at "wpd"
  have pT : Str.ofString "plan" = tx planL := planL_tx
  have qT : Str.ofString "pair" = tx [112, 97, 105, 114] := by decide +kernel
  rw [pT, qT]
  refine rIxL_mk (SqL.of hW) (atI_nat (j := 0) rfl) (eqT ⟨_, rfl, (fun c => absurd c (by decide)), fun _ => ?_⟩)
  refine rIxL_mk (SqL.of hW) (atI_nat (j := 0) rfl) (eqT ⟨_, rfl, (fun c => absurd c (by decide)), fun _ => ?_⟩)
  exact rIxL_mk (SqL.of hW) (atI_nat (j := 2) rfl) ⟨_, k, rfl, hk, by rw [tx_len]; exact lt, k, rfl, k1, k2, fun D xs H' g _ hD hP => q D xs H' g hD hP⟩
def rwT (M : Int) : Str := Str.ofString "right within " ++ Str.ofString (toString M)
def sp_check_answer (K : PySem.W.Frag) : Sp := fun vs H Q _ => ∃ (a b t : Addr) (xs ys : List V) (ws us : List T3) (k : Int), vs = [.ref a, .ref b, .ref t] ∧ H a = some (.lst xs) ∧ Pl H xs ws ∧ H b = some (.lst ys) ∧ Pl H ys us ∧ KpP ws ∧ KpP us ∧ H t = some (.tup [.str "in", .int k]) ∧ rightB (shs ws us) 1 0 (.inn k) = true ∧ prd ws us k < 2 ^ 1900 ∧ 0 ≤ prd ws us k ∧ ∀ H', Same H H' → Q (.str (rwT (prd ws us k))) H'
theorem h_check_answer {c_NoPaper c_MeetError : Addr} (T : TF K mg "check_answer" s_check_answer) (O_NoPaper : OX K mg "NoPaper" c_NoPaper (.ref c_MeetError :: VE)) (G_paper_wait : HasX P w K mg base 8 "paper_wait" ["one", "other", "paper"] (sp_paper_wait K 1)) : Has P w K mg base 9 "check_answer" ["one", "other", "paper"] (sp_check_answer K) := by
  refine T.has sc_check_answer (fun _ _ _ _ _ _ us hl => match us, hl with | [_, _, _], _ => rfl) (fun vs H Q E h => ?_) (fun f cdv A outer s H vs Q E hr h => ?_)
  · obtain ⟨a, b, t, xs, ys, ws, us, k, rfl, _⟩ := h
    rfl
  obtain ⟨a, b, t, xs, ys, ws, us, k, rfl, ha, hP, hb, hP2, kw, ku, ht, hr2, z1, z0, q⟩ := h
  refine ⟨_, (pss_cons (ps_try rfl rfl rfl (pxs_set (i := 3) sc_check_answer.nd rfl (Or.inl rfl) (pxe_call rfl (G_paper_wait.mono (by first | decide | omega)) hr (pa_cons (pv 0) (pa_cons (pv 1) (pa_cons (pv 2) pa_nil))))) (ph_cons rfl (fun _ => pm_own O_NoPaper O_NoPaper) (fun _ => (pss_one (ps_ret pe_str))) ph_nil)) (pss_one (ps_ret (pe_join (pj_cons pe_str (pj_cons (pe_fmt (pv 3)) pj_nil)))))), ?_⟩
  walk_at "wpd"
  unfold tTry
  walk_at "wpd"
  have e9 : (2 : Int) ^ 900 < 2 ^ 1000 := by decide +kernel
  refine ⟨a, b, .ref t, xs, ys, ws, us, .inn k, rfl, SqL.of ha, hP, SqL.of hb, hP2, fun u hu => ⟨kw.1 u hu, by have := kw.2.1 u hu; omega⟩, fun u hu => ⟨ku.1 u hu, by have := ku.2.1 u hu; omega⟩, by have := kw.2.2; omega, by have := ku.2.2; omega, .inn ht, by simp [Pap.dep], by simp [Pap.kn], hr2, fun M H1 g1 hM => ?_⟩
  have eM : M = prd ws us k := by
    have := hM.1
    simpa [Pap.nm] using this
  rw [← eM] at z0 z1 q
  have lr : (Str.ofString "right within ").length = 13 := by decide +kernel
  have lM := num_len z0 (show M < 10 ^ 600 from Int.lt_trans z1 (by decide +kernel))
  have eE : ∀ z : Str, Str.empty ++ z = z := fun z => by
    apply str_ext
    rw [str_app]
    rfl
  refine ⟨_, rfl, by rw [eE, lr]; decide, .inl ⟨M, rfl, ?_, _, rfl, by rw [eE, app_len]; omega, by rw [eE, app_len]; omega, by rw [eE]; exact q H1 g1⟩⟩
  refine log_lt (Nat.lt_trans (m := 2 ^ 1900) ?_ (by decide +kernel))
  have ei : ((2 ^ 1900 : Nat) : Int) = 2 ^ 1900 := by rw [Int.natCast_pow]; rfl
  rw [← ei] at z1
  generalize (2 : Nat) ^ 1900 = B at *
  omega
def sp_told92 (K : PySem.W.Frag) (C : Addr) : Sp := fun vs H Q _ => ∃ (d pd : Addr) (l : List Nat) (n : Nat) (L : Book), vs = [.ref d, .str (tx l)] ∧ Dsk C H d pd n L ∧ n ≤ 1000 ∧ TxOk l ∧
  ((∃ nm t k, rowOf l = some [gridL, nm, t] ∧ intText? (tx t) = some k ∧ t.length ≤ 640 ∧ 1 ≤ k ∧ k < 2 ^ 400 ∧ KpP (grd k) ∧ ∀ H', OffD pd H H' → Dsk C H' d pd (n + 1) (setB L (tx nm) (grd k)) → Q (.str "kept") H') ∨
   (∃ n1 n2 t1 t2 k1 k2 ws us, rowOf l = some [meetL, n1, n2, t1, t2] ∧ KtOk t1 k1 ∧ KtOk t2 k2 ∧ L (tx n1) = some ws ∧ L (tx n2) = some us ∧ ∀ r H', Same H H' → NextOf (TogP ws us k1) k2 r → Q (.str (ansT r)) H') ∨
   ∃ n1 n2 k ws us, rowOf l = some [checkL, n1, n2, inL ++ dg k] ∧ DgOk k ∧ L (tx n1) = some ws ∧ L (tx n2) = some us ∧ rightB (shs ws us) 1 0 (.inn k) = true ∧ prd ws us k < 2 ^ 1900 ∧ 0 ≤ prd ws us k ∧ ∀ H', Same H H' → Q (.str (rwT (prd ws us k))) H')
theorem h_told92 {C c_NoRow c_NoName : Addr} (X : DkTx K C) (cl_Desk : Cls K C) (T : TM K C "told" "Desk.told" s_Desk_told) (m_int : mg "int" = none) (G_words_of : HasX P w K mg base 4 "words_of" ["row"] (sp_words_of c_NoRow)) (G_told_plan : Has P w K mg base 2 "told_plan" ["words"] (sp_told_grid K)) (G_Desk_plan_by : HasMX P w K mg base 1 C "plan_by" ["self", "name"] (sp_plan_by K C c_NoName)) (G_turn_answer : Has P w K mg base 1 "turn_answer" ["turn"] sp_turn_answer) (G_next_together : Has P w K mg base 5 "next_together" ["one", "other", "shift", "turn"] (sp_next_tog K)) (G_read_paper : Has P w K mg base 5 "read_paper" ["text"] (sp_rpap1 K)) (G_check_answer : Has P w K mg base 9 "check_answer" ["one", "other", "paper"] (sp_check_answer K)) : HasMX P w K mg base 10 C "told" ["self", "row"] (sp_told92 K C) := by
  refine T.hasX sc_Desk_told (fun _ _ _ _ _ _ us hl => match us, hl with | [_, _], _ => rfl) (fun vs H Q E h => ?_) (fun f cdv A outer s H vs Q E hr h => ?_)
  · obtain ⟨d, pd, l, n, L, rfl, _⟩ := h
    rfl
  obtain ⟨d, pd, l, n, L, rfl, hk, hn, hl, h⟩ := h
  refine ⟨_, (pss_cons (ps_set (i := 2) sc_Desk_told.nd rfl (Or.inl rfl) (pe_defX (G_words_of.mono (by first | decide | omega)) hr passX (pa_cons (pv 1) pa_nil))) (pss_cons (ps_if (pt_cmpR op_inT (pe_ix ix_list (pv 2) pe_int (fun _ _ => rfl)) (pe_tup (pa_cons pe_str (pa_cons pe_str (pa_cons pe_str pa_nil)))) rfl) (pss_cons (ps_dput (hu_of hr) (pe_fld (pv 0) rfl) (pe_ix ix_list (pv 2) pe_int (fun _ _ => rfl)) (pe_def (G_told_plan.mono (by first | decide | omega)) hr (pa_cons (pv 2) pa_nil)) rfl) (pss_one (ps_ret pe_str))) pss_nil) (pss_cons (ps_if (pt_cmpR op_eq (pe_ix ix_list (pv 2) pe_int (fun _ _ => rfl)) pe_str (nomark _)) (pss_one ps_never) pss_nil) (pss_cons (ps_set (i := 3) sc_Desk_told.nd rfl (Or.inl rfl) (pe_ifExp (pt_cmpR op_eq (pe_ix ix_list (pv 2) pe_int (fun _ _ => rfl)) pe_str (nomark _)) (pe_def (G_read_paper.mono (by first | decide | omega)) hr (pa_cons (pe_ix ix_list (pv 2) pe_int (fun _ _ => rfl)) pa_nil)) pe_non)) (pss_cons (ps_set (i := 4) sc_Desk_told.nd rfl (Or.inl rfl) (pe_mthX (pv 0) cl_Desk (G_Desk_plan_by.mono (by first | decide | omega)) hr passX (pa_cons (pe_ix ix_list (pv 2) pe_int (fun _ _ => rfl)) pa_nil))) (pss_cons (ps_set (i := 5) sc_Desk_told.nd rfl (Or.inl rfl) (pe_mthX (pv 0) cl_Desk (G_Desk_plan_by.mono (by first | decide | omega)) hr passX (pa_cons (pe_ix ix_list (pv 2) pe_int (fun _ _ => rfl)) pa_nil))) (pss_cons (ps_if (pt_cmpR op_eq (pe_ix ix_list (pv 2) pe_int (fun _ _ => rfl)) pe_str (nomark _)) (pss_one (ps_ret (pe_def (G_turn_answer.mono (by first | decide | omega)) hr (pa_cons (pe_def (G_next_together.mono (by first | decide | omega)) hr (pa_cons (pv 4) (pa_cons (pv 5) (pa_cons (pe_callTy call_int_text rfl m_int (by decide +kernel) (pa_cons (pe_ix ix_list (pv 2) pe_int (fun _ _ => rfl)) pa_nil)) (pa_cons (pe_callTy call_int_text rfl m_int (by decide +kernel) (pa_cons (pe_ix ix_list (pv 2) pe_int (fun _ _ => rfl)) pa_nil)) pa_nil))))) pa_nil)))) pss_nil) (pss_cons (ps_if (pt_cmpR op_eq (pe_ix ix_list (pv 2) pe_int (fun _ _ => rfl)) pe_str (nomark _)) (pss_one ps_never) pss_nil) (pss_cons (ps_if (pt_cmpR op_eq (pe_ix ix_list (pv 2) pe_int (fun _ _ => rfl)) pe_str (nomark _)) (pss_one ps_never) pss_nil) (pss_one (ps_ret (pe_def (G_check_answer.mono (by first | decide | omega)) hr (pa_cons (pv 4) (pa_cons (pv 5) (pa_cons (pv 3) pa_nil))))))))))))))), ?_⟩
  walk_at "wpd"
  have chk : Str.ofString "check" = tx checkL := checkL_tx
  have sur : Str.ofString "sure" = tx [115, 117, 114, 101] := by decide +kernel
  have wor : Str.ofString "worst" = tx [119, 111, 114, 115, 116] := by decide +kernel
  rw [awakeL_tx, chk, meetL_tx, sur, wor]
  rcases h with ⟨nm, t, k, er, ht, lt, k1, k2, kp, q⟩ | ⟨n1, n2, t1, t2, k1, k2, ws, us, er, hk1, hk2, e1, e2, q⟩ | ⟨n1, n2, k, ws, us, er, dk, e1, e2, rt, z1, z0, q⟩
  · refine ⟨l, rfl, hl, (fun e => by rw [er] at e; cases e), fun ws D H1 e g1 nD hD => ?_⟩
    rw [er] at e
    cases e
    refine rIxL_mk (SqL.of hD) (atI_nat (j := 0) rfl) fun p np => ?_
    have gp := same_new np (.tup (PPG.map V.str))
    refine ⟨tx gridL, p, PPG, rfl, rfl, SqT.of upd_same, fun _ => ?_, fun c => absurd (by decide +kernel) c⟩
    have hD2 := gp _ _ hD
    have G2 := g1.trans gp
    change sp_told_grid K [V.ref D] (upd H1 p (.tup (PPG.map V.str))) _ _
    generalize upd H1 p (.tup (PPG.map V.str)) = H2 at gp hD2 G2 ⊢
    refine ⟨D, nm, t, k, rfl, hD2, ht, lt, k1, k2, fun F xs H3 g3 hF hP => ?_⟩
    have G3 := G2.trans g3
    obtain ⟨⟨dx, hd⟩, kvs, hp, hlk, hb⟩ := hk.same G3
    refine ⟨d, C, dx, _, .ref pd, rfl, hd, X.cl, X.nP, rfl, rIxL_mk (SqL.of (g3 _ _ hD2)) (atI_nat (j := 1) rfl) ⟨pd, _, rfl, DPut.k (k := .inr (tx nm)) hp (by rw [sizeLine_eq]; omega), q _ (fun b o hb e => by rw [upd_ne hb]; exact G3 b o e) ⟨⟨dx, by rw [upd_ne (ne_of hd hp (by intro z; cases z))]; exact hd⟩, _, upd_same, ?_, ?_⟩⟩⟩
    · have := length_putK kvs (Sum.inr (tx nm)) (.ref F)
      omega
    · exact (hb.put kp hF hP).by (fun b ys e => by rw [upd_ne (ne_of e hp (by intro z; cases z))]; exact e) fun b ys e => by rw [upd_ne (ne_of e hp (by intro z; cases z))]; exact e
  · refine ⟨l, rfl, hl, (fun e => by rw [er] at e; cases e), fun ws' D H1 e g1 nD hD => ?_⟩
    rw [er] at e
    cases e
    refine rIxL_mk (SqL.of hD) (atI_nat (j := 0) rfl) fun p np => ?_
    have gp := same_new np (.tup (PPG.map V.str))
    refine ⟨tx meetL, p, PPG, rfl, rfl, SqT.of upd_same, (fun c => absurd c (by decide +kernel)), fun _ => ?_⟩
    have hD2 := gp _ _ hD
    have G2 := g1.trans gp
    change rIxL K (V.ref D) (V.int 0) (upd H1 p (.tup (PPG.map V.str))) _
    generalize upd H1 p (.tup (PPG.map V.str)) = H2 at gp hD2 G2 ⊢
    have hk2' := hk.same G2
    obtain ⟨⟨dx, hd⟩, _⟩ := hk2'
    refine rIxL_mk (SqL.of hD2) (atI_nat (j := 0) rfl) (eqT ⟨_, rfl, (fun c => absurd c (by decide)), fun _ => ?_⟩)
    refine rIxL_mk (SqL.of hD2) (atI_nat (j := 0) rfl) (eqT ⟨_, rfl, (fun c => absurd c (by decide)), fun _ => ⟨d, dx, _, rfl, hd, pb_no _, rIxL_mk (SqL.of hD2) (atI_nat (j := 1) rfl) ⟨d, pd, tx n1, n, L, rfl, hk.same G2, (fun e => by rw [e1] at e; cases e), fun ws' F xs e kp hF hP => ?_⟩⟩⟩)
    rw [e1] at e
    cases e
    refine ⟨d, dx, _, rfl, hd, pb_no _, rIxL_mk (SqL.of hD2) (atI_nat (j := 2) rfl) ⟨d, pd, tx n2, n, L, rfl, hk.same G2, (fun e => by rw [e2] at e; cases e), fun us' F2 ys e kp2 hF2 hP2 => ?_⟩⟩
    rw [e2] at e
    cases e
    refine rIxL_mk (SqL.of hD2) (atI_nat (j := 0) rfl) (eqT ⟨_, rfl, fun _ => ?_, fun c => absurd (decide_eq_true rfl) c⟩)
    refine rIxL_mk (SqL.of hD2) (atI_nat (j := 3) rfl) ⟨_, k1, rfl, hk1.1, by rw [tx_len]; exact hk1.2.1, rIxL_mk (SqL.of hD2) (atI_nat (j := 4) rfl) ⟨_, k2, rfl, hk2.1, by rw [tx_len]; exact hk2.2.1, F, F2, xs, ys, ws, us, k1, k2, rfl, SqL.of hF, hP, SqL.of hF2, hP2, kp.1, kp2.1, kp.2.1, kp2.2.1, by have := kp.2.2; omega, by have := kp2.2.2; omega, fun r H3 g3 hr => ⟨r, rfl, fun m z => ?_, q r H3 (G2.trans g3) hr⟩⟩⟩
    subst z
    exact tog_size kp kp2 hk2.2.2 hr
  · refine ⟨l, rfl, hl, (fun e => by rw [er] at e; cases e), fun ws' D H1 e g1 nD hD => ?_⟩
    rw [er] at e
    cases e
    refine rIxL_mk (SqL.of hD) (atI_nat (j := 0) rfl) fun p np => ?_
    have gp := same_new np (.tup (PPG.map V.str))
    refine ⟨tx checkL, p, PPG, rfl, rfl, SqT.of upd_same, (fun c => absurd c (by decide +kernel)), fun _ => ?_⟩
    have hD2 := gp _ _ hD
    have G2 := g1.trans gp
    change rIxL K (V.ref D) (V.int 0) (upd H1 p (.tup (PPG.map V.str))) _
    generalize upd H1 p (.tup (PPG.map V.str)) = H2 at gp hD2 G2 ⊢
    refine rIxL_mk (SqL.of hD2) (atI_nat (j := 0) rfl) (eqT ⟨_, rfl, (fun c => absurd c (by decide)), fun _ => ?_⟩)
    refine rIxL_mk (SqL.of hD2) (atI_nat (j := 0) rfl) (eqT ⟨_, rfl, (fun _ => rIxL_mk (SqL.of hD2) (atI_nat (j := 3) rfl) ⟨k, rfl, dk, fun tp H3 g3 ht => ?_⟩), fun c => absurd (decide_eq_true rfl) c⟩)
    have G3 := G2.trans g3
    have hD3 := g3 _ _ hD2
    have hk3 := hk.same G3
    obtain ⟨⟨dx, hd⟩, _⟩ := id hk3
    refine ⟨d, dx, _, rfl, hd, pb_no _, rIxL_mk (SqL.of hD3) (atI_nat (j := 1) rfl) ⟨d, pd, tx n1, n, L, rfl, hk3, (fun e => by rw [e1] at e; cases e), fun ws' F xs e kp hF hP => ?_⟩⟩
    rw [e1] at e
    cases e
    refine ⟨d, dx, _, rfl, hd, pb_no _, rIxL_mk (SqL.of hD3) (atI_nat (j := 2) rfl) ⟨d, pd, tx n2, n, L, rfl, hk3, (fun e => by rw [e2] at e; cases e), fun us' F2 ys e kp2 hF2 hP2 => ?_⟩⟩
    rw [e2] at e
    cases e
    refine rIxL_mk (SqL.of hD3) (atI_nat (j := 0) rfl) (eqT ⟨_, rfl, (fun c => absurd c (by decide)), fun _ => ?_⟩)
    refine rIxL_mk (SqL.of hD3) (atI_nat (j := 0) rfl) (eqT ⟨_, rfl, (fun c => absurd c (by decide)), fun _ => ?_⟩)
    refine rIxL_mk (SqL.of hD3) (atI_nat (j := 0) rfl) (eqT ⟨_, rfl, (fun c => absurd c (by decide)), fun _ => ?_⟩)
    exact ⟨F, F2, tp, xs, ys, ws, us, k, rfl, hF, hP, hF2, hP2, kp, kp2, ht, rt, z1, z0, fun H4 g4 => q H4 (G3.trans g4)⟩

def annL : List Nat := [97, 110, 110]
def bobL : List Nat := [98, 111, 98]
def sp_size : Sp := fun vs H Q _ => ∃ c : Int, vs = [.int c] ∧ ∀ s : Int, 1 ≤ s → s ≤ 10 ^ 20 → Q (.int s) H
theorem h_law_size (T : TF K mg "_law_size" s_law_size) : Has P w K mg base 1 "_law_size" ["cell"] sp_size := by
  refine T.has sc_law_size (fun _ _ _ _ _ _ us hl => match us, hl with | [_], _ => rfl) (fun vs H Q E h => ?_) (fun f cdv A outer s H vs Q E hr h => ?_)
  · obtain ⟨c, rfl, _⟩ := h
    rfl
  obtain ⟨c, rfl, q⟩ := h
  refine ⟨_, (pss_cons (ps_if (pt_cmpR op_eq (pe_op op_mod (pv 0) pe_int) pe_int (nomark _)) (pss_one (ps_ret (pe_op op_add pe_int (pe_op op_mod (pe_op op_fdivA (pv 0) pe_int) pe_int)))) pss_nil) (pss_one (ps_ret (pe_op op_add pe_int (pe_op op_mod (pe_op op_fdivA (pv 0) pe_int) (pe_op op_pow pe_int pe_int)))))), ?_⟩
  walk_at "wpd"
  have b1 := modB (c / 2) (show (0 : Int) < 12 by decide)
  have b2 := modB (c / 2) (show (0 : Int) < 10 ^ Int.toNat 20 by decide)
  have e : (10 : Int) ^ Int.toNat 20 = 10 ^ 20 := rfl
  have e2 : (12 : Int) ≤ 10 ^ 20 := by decide
  rw [e] at b2
  refine ⟨by decide, fun _ => ⟨divA 10 (by decide) (by decide) (by decide), by decide, q _ (by omega) (by omega)⟩, fun _ => ⟨divA 10 (by decide) (by decide) (by decide), ⟨by decide, by decide, by decide⟩, by decide, q _ (by rw [e]; omega) (by rw [e]; omega)⟩⟩
def sp_great92 : Sp := fun vs H Q _ => ∃ c : Int, vs = [.int c] ∧ ∀ (t : Int) (H' : Hp), Same H H' → -(10 ^ 60) ≤ t → t ≤ 10 ^ 60 → Q (.int t) H'
theorem h_law_great (T : TF K mg "_law_great" s_law_great) : Has P w K mg base 1 "_law_great" ["cell"] sp_great92 := by
  refine T.has sc_law_great (fun _ _ _ _ _ _ us hl => match us, hl with | [_], _ => rfl) (fun vs H Q E h => ?_) (fun f cdv A outer s H vs Q E hr h => ?_)
  · obtain ⟨c, rfl, _⟩ := h
    rfl
  obtain ⟨c, rfl, q⟩ := h
  refine ⟨_, (pss_cons (ps_set (i := 1) sc_law_great.nd rfl (Or.inl rfl) (pe_op op_mod (pe_op op_fdivA (pv 0) pe_int) (pe_op op_pow pe_int pe_int))) (pss_one (ps_ret (pe_ix ix_list (pe_lst (pa_cons (pv 1) (pa_cons (pe_op op_sub pe_int (pv 1)) pa_nil))) (pe_op op_mod (pv 0) pe_int) (fun _ _ => rfl))))), ?_⟩
  walk_at "wpd"
  have b2 := modB (c / 2) (show (0 : Int) < 10 ^ Int.toNat 60 by decide)
  have e : (10 : Int) ^ Int.toNat 60 = 10 ^ 60 := rfl
  have bc := modB c (show (0 : Int) < 2 by decide)
  refine ⟨divA 10 (by decide) (by decide) (by decide), ⟨by decide, by decide, by decide⟩, by decide, fun p np => ⟨by decide, ?_⟩⟩
  have v := getD_all (Pz := fun z => -(10 ^ 60) ≤ z ∧ z ≤ 10 ^ 60) (zs := [c / 2 % 10 ^ Int.toNat 60, 0 - c / 2 % 10 ^ Int.toNat 60]) (i := (c % 2).toNat) (by
    intro z hz
    simp only [List.mem_cons, List.not_mem_nil, or_false] at hz
    rw [e] at hz b2
    rcases hz with rfl | rfl <;> omega) (by simp; omega)
  exact rIxL_mk (SqL.of upd_same) (atI_getD (zs := [c / 2 % 10 ^ Int.toNat 60, 0 - c / 2 % 10 ^ Int.toNat 60]) bc.1 (by simp; omega)) (q _ _ (same_new np _) v.1 v.2)
def gawB (n t : Int) : Bool := decide (t % n = 0) || decide (t % (n * n) < n)
def sp_gaw : Sp := fun vs H Q _ => ∃ n t : Int, vs = [.int n, .int t] ∧ 1 ≤ n ∧ n ≤ 10 ^ 20 ∧ Q (.bl (gawB n t)) H
theorem h_law_awake (T : TF K mg "_law_awake" s_law_awake) : Has P w K mg base 1 "_law_awake" ["size", "turn"] sp_gaw := by
  refine T.has sc_law_awake (fun _ _ _ _ _ _ us hl => match us, hl with | [_, _], _ => rfl) (fun vs H Q E h => ?_) (fun f cdv A outer s H vs Q E hr h => ?_)
  · obtain ⟨n, t, rfl, _⟩ := h
    rfl
  obtain ⟨n, t, rfl, n1, n2, q⟩ := h
  refine ⟨_, (pss_one (ps_ret (pe_or (pe_cmpR op_eq (pe_op op_mod (pv 1) (pv 0)) pe_int (nomark _)) (pe_one (pe_cmpR op_lt (pe_op op_mod (pv 1) (pe_op op_mulA (pv 0) (pv 0))) (pv 0) (nomark _)))))), ?_⟩
  unfold gawB at q
  walk_at "wpd"
  have sq : 0 < n * n := Int.mul_pos (by omega) (by omega)
  refine ⟨by omega, fun c => ?_, fun c => ⟨mok 400 400 (by omega) (by omega) (by decide), sq, ?_⟩⟩
  · rw [decide_eq_true c, Bool.true_or] at q
    exact q
  · rw [decide_eq_false c, Bool.false_or] at q
    exact q
theorem slice_to1 {l : List Nat} (h : 1 ≤ l.length) : Txt.slice (tx l) none (some 1) = tx (l.take 1) := by
  have e : Txt.slice (tx l) none (some (1 : Int)) = Txt.slice (tx l) (some ((0 : Nat) : Int)) (some ((1 : Nat) : Int)) := by
    show StrLaws.sliceText _ _ _ = StrLaws.sliceText _ _ _
    have e0 : max (0 : Int) (min 0 (l.length : Int)) = 0 := by omega
    unfold StrLaws.sliceText
    rw [tx_len]
    simp [Builtin.Str.strSliceIndices, e0]
  rw [e, slice_at (Nat.zero_le _) h]
  rfl
theorem dg_len99 {n : Int} (h0 : 0 ≤ n) (h1 : n < 10 ^ 99) : (dg n).length ≤ 99 := by
  obtain ⟨l, e, a, b, c, d, f⟩ := num_text h0
  have el : dg n = l := by
    unfold dg
    rw [e, tx_list]
  rw [el]
  exact f 98 h1
theorem dg_sg {n m : Int} (hm : m = if n < 0 then -n else n) (d : DgOk m) : dg n = (if n < 0 then 45 :: dg m else dg m) ∧ decide ((dg n).take 1 = [45]) = decide (n < 0) := by
  by_cases c : n < 0
  · rw [if_pos c] at hm ⊢
    subst hm
    have e := dg_neg c
    exact ⟨e, by rw [e, decide_eq_true c]; rfl⟩
  · rw [if_neg c] at hm ⊢
    subst hm
    refine ⟨rfl, ?_⟩
    rw [decide_eq_false c]
    refine decide_eq_false fun z => ?_
    have a := d.all
    have ne := d.ne
    cases hd : dg m with
    | nil => exact ne hd
    | cons x r =>
      rw [hd] at z a
      have z1 : x = 45 := by simpa using z
      have := a x (by simp)
      omega
def sp_lread : Sp := fun vs H Q _ => ∃ n : Int, vs = [.str (tx (dg n))] ∧ -(10 ^ 99) < n ∧ n < 10 ^ 99 ∧ Q (.int n) H
theorem h_law_read (T : TF K mg "_law_read" s_law_read) (m_len : mg "len" = none) (m_int : mg "int" = none) : Has P w K mg base 1 "_law_read" ["word"] sp_lread := by
  refine T.has sc_law_read (fun _ _ _ _ _ _ us hl => match us, hl with | [_], _ => rfl) (fun vs H Q E h => ?_) (fun f cdv A outer s H vs Q E hr h => ?_)
  · obtain ⟨n, rfl, _⟩ := h
    rfl
  obtain ⟨n, rfl, n0, n1, q⟩ := h
  refine ⟨_, (pss_cons (ps_set (i := 1) sc_law_read.nd rfl (Or.inl rfl) (pe_cmpR op_eq (pe_slice sl_str (pv 0) po_none (po_some pe_int)) pe_str (nomark _))) (pss_cons (ps_cut (ps_set (i := 2) sc_law_read.nd rfl (Or.inl rfl) (pe_ifExp (pt_val (pv 1) (fun _ => rfl)) (pe_slice sl_str (pv 0) (po_some pe_int) po_none) (pv 0)))) (pss_cons (ps_cut (ps_if (PW.pt (pw_or (pt_cmpR op_eq (pv 2) pe_str (nomark _)) (pw_or (pt_cmpR op_gt (pe_callB call_len_str rfl m_len PySem.boot_len (pa_cons (pv 2) pa_nil)) pe_int (nomark _)) (pw_or1 (PW.pt (pw_and (pt_cmpR op_eq (pe_ix ix_str (pv 2) pe_int (fun _ _ => rfl)) pe_str (nomark _)) (pw_and1 (pt_cmpR op_ne (pv 0) pe_str (nomark _))))))))) (pss_one (ps_ret pe_non)) pss_nil)) (pss_cons (ps_for PassesOwn.never rfl (pi_str (pv 2)) (pg_name (i := 3) sc_law_read.nd rfl (Or.inl rfl)) (pss_one (ps_if (pt_cmpR op_notIn_str (pv 3) pe_str rfl) (pss_one (ps_ret pe_non)) pss_nil))) (pss_one (ps_ret (pe_ifExp (pt_val (pv 1) (fun _ => rfl)) (pe_op op_sub pe_int (pe_callTy call_int_text rfl m_int (by decide +kernel) (pa_cons (pv 2) pa_nil))) (pe_callTy call_int_text rfl m_int (by decide +kernel) (pa_cons (pv 2) pa_nil))))))))), ?_⟩
  walk_at "wpd"
  have mT : Str.ofString "-" = tx [45] := by decide +kernel
  obtain ⟨m, hm⟩ : ∃ m : Int, m = if n < 0 then -n else n := ⟨_, rfl⟩
  have m0 : 0 ≤ m := by rw [hm]; split <;> omega
  have m1 : m < 10 ^ 99 := by rw [hm]; split <;> omega
  have d : DgOk m := dgOk m0 (Int.lt_trans m1 (by decide +kernel))
  have d99 := dg_len99 m0 m1
  obtain ⟨e, eb⟩ := dg_sg hm d
  have dl := List.length_pos_iff.mpr d.ne
  have ln : (dg n).length ≤ 100 := by
    rw [e]
    split
    · rw [List.length_cons]; omega
    · omega
  have l1 : 1 ≤ (dg n).length := by
    rw [e]
    split
    · rw [List.length_cons]; omega
    · omega
  refine ⟨_, rfl, by rw [tx_len, sizeLine_eq]; omega, ?_⟩
  rw [slice_to1 l1, mT]
  refine eqT ?_
  rw [eb]
  refine ⟨fun σ H' => σ = [some (.str (tx (dg n))), some (.bl (decide (n < 0))), some (.str (tx (dg m))), none] ∧ H' = H, ?_, ?_⟩
  · walk_at "wpd"
    refine ⟨fun c => ⟨_, rfl, by rw [tx_len, sizeLine_eq]; omega, ?_, rfl⟩, fun c => ?_⟩
    · have e1 : Txt.slice (tx (dg n)) (some 1) none = tx ((dg n).drop 1) := slice_from (i := 1) l1
      rw [e1, e, if_pos c]
      rfl
    · rw [e, if_neg c]
  rintro σ H' ⟨rfl, rfl⟩
  walk_at "wpd"
  refine ⟨fun σ H2 => σ = [some (.str (tx (dg n))), some (.bl (decide (n < 0))), some (.str (tx (dg m))), none] ∧ H2 = H', ?_, ?_⟩
  · walk_at "wpd"
    have em : Str.ofString "" = tx [] := by decide +kernel
    have ze : Str.ofString "0" = tx [48] := by decide +kernel
    rw [em, ze]
    obtain ⟨c0, r0, e0⟩ : ∃ c r, dg m = c :: r := by
      cases h : dg m with
      | nil => exact absurd h d.ne
      | cons c r => exact ⟨c, r, rfl⟩
    refine eqT ⟨_, rfl, fun c => absurd (of_decide_eq_true c) d.ne, fun _ => ⟨_, rfl, by rw [tx_len]; omega, fun c => ?_, fun _ => ?_⟩⟩
    · rw [tx_len] at c
      omega
    refine ⟨_, _, c0, rfl, rfl, by rw [tx_len]; show _ ≤ 16777216; omega, by rw [tx_list, e0]; exact atI_nat (j := 0) rfl, ?_⟩
    refine eqT (l := [c0]) ⟨_, rfl, fun c => ?_, fun c => rfl⟩
    have c1 : c0 = 48 := by simpa using c
    have z1 := d.zero (by rw [e0, c1]; rfl)
    refine neT ⟨_, rfl, fun c2 => ?_, fun c2 => rfl⟩
    exfalso
    have e2 : dg m = [48] := by
      rw [e0] at z1 ⊢
      have : r0 = [] := List.length_eq_zero_iff.mp (by simpa using z1)
      rw [this, c1]
    have v := d.val
    rw [e2] at v
    have v0 : m = 0 := by
      have : (0 : Int) = m := v
      omega
    have nn : ¬ n < 0 := fun z => by
      rw [hm, if_pos z] at v0
      omega
    rw [e, if_neg nn, e2] at c2
    exact absurd c2 (by decide)
  rintro σ H2 ⟨rfl, rfl⟩
  walk_at "wpd"
  refine ⟨_, rfl, asc_iff.mpr fun x hx => ?_, ?_⟩
  · rw [tx_list] at hx
    have := d.all x hx
    omega
  obtain ⟨Pv, hPv⟩ : ∃ Pv : Nat → St → Hp → Prop, Pv = fun i σ H3 => ∃ o, σ = [some (.str (tx (dg n))), some (.bl (decide (n < 0))), some (.str (tx (dg m))), o] ∧ H3 = H2 := ⟨_, rfl⟩
  refine forW_str Pv (by rw [hPv]; exact ⟨none, rfl, rfl⟩) (fun i c σ H3 hx h => ?_) (fun σ H3 h => ?_)
  · rw [hPv] at h
    obtain ⟨o, rfl, rfl⟩ := h
    have hx' : (dg m)[i]? = some c := by
      rw [← tx_list (dg m), Array.getElem?_toList]
      exact hx
    have fc := d.all c (List.mem_of_getElem? hx')
    walk_at "wpd"
    have fb := fig_in c
    have ft : figB c = true := by unfold figB; simp; omega
    rw [ft] at fb
    refine ⟨_, _, rfl, rfl, fun z => ?_, fun _ => ?_⟩
    · rw [z] at fb
      cases fb
    · rw [hPv]
      exact ⟨_, rfl, rfl⟩
  · rw [hPv] at h
    obtain ⟨o, rfl, rfl⟩ := h
    walk_at "wpd"
    have rd := intText_digits (x := tx (dg m)) (by rw [tx_list]; exact d.all) (by rw [tx_list]; exact d.ne) (by rw [tx_len]; omega)
    rw [tx_list, d.val] at rd
    refine ⟨fun c => ⟨_, _, rfl, rd, by rw [tx_len]; omega, ?_⟩, fun c => ⟨_, _, rfl, rd, by rw [tx_len]; omega, ?_⟩⟩
    · have : 0 - m = n := by rw [hm, if_pos c]; omega
      rw [this]
      exact q
    · have : m = n := by rw [hm, if_neg c]
      rw [this]
      exact q
theorem blank_tx : Str.ofString " " = tx [32] := by decide +kernel
theorem tx_plus (k l : List Nat) : tx k ++ tx l = tx (k ++ l) := by
  show Str.mk _ = Str.mk _
  congr 1
  simp [tx]
theorem td_no (v : V) : List.lookup (Str.ofString "told") [((Str.ofString "plans"), v)] = none := by
  rw [List.lookup_cons, show ((Str.ofString "told") == (Str.ofString "plans")) = false by decide +kernel]
  rfl
theorem gaw_iff {n x : Int} (n1 : 1 ≤ n) : (∃ u ∈ grd n, awP u x) ↔ gawB n x = true := by
  have b1 := modB x (show (0 : Int) < n by omega)
  unfold grd gawB awP
  simp only [List.mem_cons, List.not_mem_nil, or_false, Bool.or_eq_true, decide_eq_true_eq]
  constructor
  · rintro ⟨u, rfl | rfl, h⟩
    · left
      have h' : (x - 0) % n < 1 := h
      rw [Int.sub_zero] at h'
      omega
    · right
      have h' : (x - 0) % (n * n) < n := h
      rwa [Int.sub_zero] at h'
  · rintro (h | h)
    · refine ⟨_, .inl rfl, ?_⟩
      show (x - 0) % n < 1
      rw [Int.sub_zero]
      omega
    · refine ⟨_, .inr rfl, ?_⟩
      show (x - 0) % (n * n) < n
      rwa [Int.sub_zero]
theorem tog_iff {l r d x : Int} (l1 : 1 ≤ l) (r1 : 1 ≤ r) : TogP (grd l) (grd r) d x ↔ gawB l x = true ∧ gawB r (x - d) = true := by
  rw [← gaw_iff l1, ← gaw_iff r1]
  rfl
def annS : Str := tx annL
def bobS : Str := tx bobL
def sp_lmet (C : Addr) : Sp := fun vs H Q _ => ∃ (d pd S : Addr) (n : Nat) (L : Book) (s1 s2 sh t W z : Int), vs = [.ref d, .ref S, .int sh, .int t, .int W, .int z] ∧ Dsk C H d pd n L ∧ n ≤ 1000 ∧ H S = some (.lst [.int s1, .int s2]) ∧ L annS = some (grd s1) ∧ L bobS = some (grd s2) ∧
  1 ≤ s1 ∧ s1 ≤ 10 ^ 20 ∧ 1 ≤ s2 ∧ s2 ≤ 10 ^ 20 ∧ -(10 ^ 60) ≤ sh ∧ sh ≤ 10 ^ 60 ∧ -(10 ^ 60) ≤ t ∧ t ≤ 10 ^ 60 ∧ lcms [max s1 s2 * max s1 s2, min s1 s2] = W ∧ W ≤ 10 ^ 60 ∧ ∀ H', Same H H' → Q (.bl true) H'
theorem h_law_met {C : Addr} (cl_Desk : Cls K C) (T : TF K mg "_law_met" s_law_met) (m_str : mg "str" = none) (m_isinstance : mg "isinstance" = none) (G_law_read : Has P w K mg base 1 "_law_read" ["word"] sp_lread) (G_law_awake : Has P w K mg base 1 "_law_awake" ["size", "turn"] sp_gaw) (G_Desk_told : HasM P w K mg base 10 C "told" ["self", "row"] (sp_told92 K C)) : Has P w K mg base 11 "_law_met" ["desk", "sizes", "shift", "turn", "wait", "between"] (sp_lmet C) := by
  refine T.has sc_law_met (fun _ _ _ _ _ _ us hl => match us, hl with | [_, _, _, _, _, _], _ => rfl) (fun vs H Q E h => ?_) (fun f cdv A outer s H vs Q E hr h => ?_)
  · obtain ⟨d, pd, S, n, L, s1, s2, sh, t, W, z, rfl, _⟩ := h
    rfl
  obtain ⟨d, pd, S, n, L, s1, s2, sh, t, W, z, rfl, hk, hn, hS, hA, hB, a1, a2, b1, b2, sh0, sh1, t0, t1, hW, W1, q⟩ := h
  refine ⟨_, (pss_cons (ps_cut (ps_set (i := 6) sc_law_met.nd rfl (Or.inl rfl) (pe_mth (pv 0) cl_Desk (G_Desk_told.mono (by first | decide | omega)) hr (pa_cons (pe_op op_add_str (pe_op op_add_str (pe_op op_add_str pe_str (pe_callTy call_str_int rfl m_str (by decide +kernel) (pa_cons (pv 2) pa_nil))) pe_str) (pe_callTy call_str_int rfl m_str (by decide +kernel) (pa_cons (pv 3) pa_nil))) pa_nil)))) (pss_cons (ps_cut (ps_if (pt_not (pt_val (pe_callB call_isI rfl m_isinstance (by decide +kernel) (pa_cons (pv 6) (pa_cons (pe_bltn (v := .ty "str") rfl m_str (by decide +kernel) rfl) pa_nil))) (fun _ => rfl))) (pss_one (ps_ret pe_bl)) pss_nil)) (pss_cons (ps_cut (ps_set (i := 7) sc_law_met.nd rfl (Or.inl rfl) (pe_def (G_law_read.mono (by first | decide | omega)) hr (pa_cons (pv 6) pa_nil)))) (pss_cons (ps_cut (ps_if (PW.pt (pw_or (pt_cmpR op_isN (pv 7) pe_non (nomark _)) (pw_or (pt_cmpR op_lt (pv 7) (pv 3) (nomark _)) (pw_or1 (pt_cmpR op_ge (pv 7) (pe_op op_add (pv 3) (pv 4)) (nomark _)))))) (pss_one (ps_ret pe_bl)) pss_nil)) (pss_cons (ps_if (PW.pt (pw_or (pt_not (pt_val (pe_def (G_law_awake.mono (by first | decide | omega)) hr (pa_cons (pe_ix ix_list (pv 1) pe_int (fun _ _ => rfl)) (pa_cons (pv 7) pa_nil))) (fun _ => rfl))) (pw_or1 (pt_not (pt_val (pe_def (G_law_awake.mono (by first | decide | omega)) hr (pa_cons (pe_ix ix_list (pv 1) pe_int (fun _ _ => rfl)) (pa_cons (pe_op op_sub (pv 7) (pv 2)) pa_nil))) (fun _ => rfl)))))) (pss_one (ps_ret pe_bl)) pss_nil) (pss_cons (ps_if (pt_cmpR op_eq (pv 7) (pv 3) (nomark _)) (pss_one (ps_ret pe_bl)) pss_nil) (pss_cons (ps_set (i := 8) sc_law_met.nd rfl (Or.inl rfl) (pe_op op_add (pv 3) (pe_op op_mod (pv 5) (pe_op op_sub (pv 7) (pv 3))))) (pss_cons (ps_for PassesOwn.never rfl (pi_list (pe_lst (pa_cons (pv 8) (pa_cons (pv 3) (pa_cons (pe_op op_sub (pv 7) pe_int) pa_nil))))) (pg_name (i := 9) sc_law_met.nd rfl (Or.inl rfl)) (pss_one (ps_if (PW.pt (pw_and (pt_val (pe_def (G_law_awake.mono (by first | decide | omega)) hr (pa_cons (pe_ix ix_list (pv 1) pe_int (fun _ _ => rfl)) (pa_cons (pv 9) pa_nil))) (fun _ => rfl)) (pw_and1 (pt_val (pe_def (G_law_awake.mono (by first | decide | omega)) hr (pa_cons (pe_ix ix_list (pv 1) pe_int (fun _ _ => rfl)) (pa_cons (pe_op op_sub (pv 9) (pv 2)) pa_nil))) (fun _ => rfl))))) (pss_one (ps_ret pe_bl)) pss_nil))) (pss_one (ps_ret pe_bl)))))))))), ?_⟩
  walk_at "wpd"
  have e100 : (10 : Int) ^ 60 < 10 ^ 100 := by decide +kernel
  have e99 : (10 : Int) ^ 60 + 10 ^ 60 < 10 ^ 99 := by decide +kernel
  have sg1 := sgOk (n := sh) (by omega) (by omega)
  have sg2 := sgOk (n := t) (by omega) (by omega)
  have kt1 := kt_of sh0 sh1
  have kt2 := kt_of t0 t1
  have ld1 := sg1.len
  have ld2 := sg2.len
  have hA' : nmB annL = true := by decide
  have hB' : nmB bobL = true := by decide
  obtain ⟨M, hM⟩ : ∃ M : Int → St → Hp → Prop, M = fun x σ H' => ∃ r o, σ = [some (.ref d), some (.ref S), some (.int sh), some (.int t), some (.int W), some (.int z), some (.str (tx (dg x))), r, o, none] ∧ Same H H' ∧ t ≤ x ∧ x < t + W ∧ TogP (grd s1) (grd s2) sh x ∧ ∀ y, t ≤ y → y < x → ¬ TogP (grd s1) (grd s2) sh y := ⟨_, rfl⟩
  have tok : TxOk (glu 32 [meetL, annL, bobL, dg sh, dg t]) := by
    refine ⟨Nat.le_trans (glu_len (M := 101) fun x hx => ?_) (by show 5 * 102 ≤ 100000; decide), glu_all (Pz := fun x => x < 128) (by decide) fun x hx => ?_⟩
    · simp only [List.mem_cons, List.not_mem_nil, or_false] at hx
      rcases hx with rfl | rfl | rfl | rfl | rfl
      · decide
      · decide
      · decide
      · omega
      · omega
    · simp only [List.mem_cons, List.not_mem_nil, or_false] at hx
      rcases hx with rfl | rfl | rfl | rfl | rfl
      · decide
      · decide
      · decide
      · exact sg_small sg1
      · exact sg_small sg2
  have eM : Str.ofString "meet ann bob " = tx (meetL ++ [32] ++ annL ++ [32] ++ bobL ++ [32]) := by decide +kernel
  have eT : meetL ++ [32] ++ annL ++ [32] ++ bobL ++ [32] ++ dg sh ++ [32] ++ dg t = glu 32 [meetL, annL, bobL, dg sh, dg t] := by simp [glu]
  have la : (meetL ++ [32] ++ annL ++ [32] ++ bobL ++ [32]).length = 13 := rfl
  refine ⟨fun σ H' => ∃ x, M x σ H', ?_, ?_⟩
  · walk_at "wpd"
    obtain ⟨dx, hd⟩ := hk.1
    refine ⟨d, dx, _, rfl, hd, td_no _, sh, rfl, sg1.sz, ?_⟩
    rw [dg_text, eM, blank_tx]
    generalize meetL ++ [32] ++ annL ++ [32] ++ bobL ++ [32] = MB at la eM eT ⊢
    refine ⟨_, _, rfl, rfl, by rw [tx_len, tx_len]; omega, ?_⟩
    rw [tx_plus]
    refine ⟨_, _, rfl, rfl, by rw [tx_len, tx_len, List.length_append, List.length_singleton]; omega, t, rfl, sg2.sz, ?_⟩
    rw [tx_plus, dg_text]
    refine ⟨_, _, rfl, rfl, by rw [tx_len, tx_len, List.length_append, List.length_append, List.length_singleton]; omega, ?_⟩
    rw [tx_plus, eT]
    refine ⟨d, pd, _, n, L, rfl, hk, hn, tok, .inr (.inl ⟨annL, bobL, dg sh, dg t, sh, t, grd s1, grd s2, row_meet hA' hB' sg1 sg2, kt1, kt2, hA, hB, fun r H' g hr => ?_⟩)⟩
    obtain ⟨x, rfl, x0, x1, x2⟩ := grid_next a1 b1 hW hr
    refine ⟨x, ?_⟩
    rw [hM]
    refine ⟨none, none, ?_, g, x0, x1, x2, hr.2.2⟩
    rw [show ansT (some x) = tx (dg x) from dg_text x]
  rintro σ H1 ⟨x, h⟩
  rw [hM] at h
  obtain ⟨r, o, rfl, g1, x0, x1, x2, x3⟩ := h
  walk_at "wpd"
  refine ⟨fun σ H' => σ = [some (.ref d), some (.ref S), some (.int sh), some (.int t), some (.int W), some (.int z), some (.str (tx (dg x))), r, o, none] ∧ H' = H1, ?_, ?_⟩
  · walk_at "wpd"
    exact ⟨_, _, _, true, rfl, .str _, rfl, true, rfl, (fun c => nomatch c), fun _ => rfl⟩
  rintro σ H2 ⟨rfl, rfl⟩
  walk_at "wpd"
  refine ⟨fun σ H' => σ = [some (.ref d), some (.ref S), some (.int sh), some (.int t), some (.int W), some (.int z), some (.str (tx (dg x))), some (.int x), o, none] ∧ H' = H2, ?_, ?_⟩
  · walk_at "wpd"
    exact ⟨x, rfl, by omega, by omega, rfl, rfl⟩
  rintro σ H3 ⟨rfl, rfl⟩
  walk_at "wpd"
  refine ⟨fun σ H' => σ = [some (.ref d), some (.ref S), some (.int sh), some (.int t), some (.int W), some (.int z), some (.str (tx (dg x))), some (.int x), o, none] ∧ H' = H3, ?_, ?_⟩
  · walk_at "wpd"
    exact ⟨fun c => by omega, fun _ c => by omega⟩
  rintro σ H4 ⟨rfl, rfl⟩
  walk_at "wpd"
  obtain ⟨y1, y2⟩ := (tog_iff a1 b1).mp x2
  have hS1 := g1 _ _ hS
  refine rIxL_mk (SqL.of hS1) (atI_nat (j := 0) rfl) ⟨s1, x, rfl, a1, a2, _, rfl, fun c => ?_, fun _ => ?_⟩
  · rw [y1] at c; cases c
  refine rIxL_mk (SqL.of hS1) (atI_nat (j := 1) rfl) ⟨s2, x - sh, rfl, b1, b2, _, rfl, fun c => ?_, fun _ => ⟨fun c => q _ g1, fun c => ⟨by omega, fun p np => ⟨⟨_, SqL.of upd_same⟩, ?_⟩⟩⟩⟩
  · rw [y2] at c; cases c
  have bz := modB z (show (0 : Int) < x - t by omega)
  have gp := same_new np (.lst [V.int (t + z % (x - t)), V.int t, V.int (x - 1)])
  have hp := upd_same (H := H4) (a := p) (o := .lst [V.int (t + z % (x - t)), V.int t, V.int (x - 1)])
  generalize hE : t + z % (x - t) = e at *
  generalize upd H4 p (.lst [V.int e, V.int t, V.int (x - 1)]) = H5 at gp hp ⊢
  obtain ⟨Pv, hPv⟩ : ∃ Pv : Nat → St → Hp → Prop, Pv = fun i σ H' => ∃ o2, σ = [some (.ref d), some (.ref S), some (.int sh), some (.int t), some (.int W), some (.int z), some (.str (tx (dg x))), some (.int x), some (.int e), o2] ∧ H' = H5 := ⟨_, rfl⟩
  refine forW_list (xs := [V.int e, V.int t, V.int (x - 1)]) Pv (by rw [hPv]; exact ⟨_, rfl, rfl⟩) (fun i σ H' _ h => ?_) (fun i v σ H' hv h => ?_) (fun σ H' h => ?_)
  · rw [hPv] at h
    obtain ⟨o2, rfl, rfl⟩ := h
    exact SqL.of hp
  · rw [hPv] at h
    obtain ⟨o2, rfl, rfl⟩ := h
    obtain ⟨y, rfl, z0, z1⟩ : ∃ y, v = V.int y ∧ t ≤ y ∧ y < x := by
      have := List.mem_of_getElem? hv
      simp only [List.mem_cons, List.not_mem_nil, or_false] at this
      rcases this with rfl | rfl | rfl
      · exact ⟨_, rfl, by omega, by omega⟩
      · exact ⟨_, rfl, by omega, by omega⟩
      · exact ⟨_, rfl, by omega, by omega⟩
    have nt := fun h => x3 y z0 z1 ((tog_iff a1 b1).mpr h)
    walk_at "wpd"
    have hS2 := gp _ _ hS1
    refine rIxL_mk (SqL.of hS2) (atI_nat (j := 0) rfl) ⟨s1, y, rfl, a1, a2, _, rfl, fun c1 => ?_, fun _ => ?_⟩
    · refine rIxL_mk (SqL.of hS2) (atI_nat (j := 1) rfl) ⟨s2, y - sh, rfl, b1, b2, _, rfl, fun c2 => (nt ⟨c1, c2⟩).elim, fun _ => ?_⟩
      rw [hPv]
      exact ⟨_, rfl, rfl⟩
    · rw [hPv]
      exact ⟨_, rfl, rfl⟩
  · rw [hPv] at h
    obtain ⟨o2, rfl, rfl⟩ := h
    walk_at "wpd"
    exact q _ (g1.trans gp)

def sp_law (K : PySem.W.Frag) : Sp := fun vs H Q _ => ∃ (a : Addr) (ns : List Int), vs = [.ref a] ∧ SqL K H a (ns.map V.int) ∧ ns.length ≤ 63 ∧ (∀ z ∈ ns, Builtin.Int.intBits z ≤ 2 ^ 20) ∧ ∀ H', Q (.bl true) H'
theorem sp_start (K : PySem.W.Frag) (H : Hp) (a : Addr) (ns : List Int) (h1 : ns.length ≤ 63) (hb : ∀ z ∈ ns, Builtin.Int.intBits z ≤ 2 ^ 20) (h2 : SqL K H a (ns.map V.int)) : sp_law K [.ref a] H (fun v _ => v = .bl true) fun _ _ _ => False := ⟨a, ns, rfl, h2, h1, hb, fun _ => rfl⟩

theorem fit_number {l : List Nat} : fitB "number" l = figM 50 l := rfl
theorem fig50 {k : Int} (h0 : 0 ≤ k) (h1 : k < 10 ^ 50) : figM 50 (dg k) = true := by
  have d := dgOk h0 (Int.lt_trans h1 (by decide +kernel))
  obtain ⟨l, e, a, b, c, dd, f⟩ := num_text h0
  have el : dg k = l := by
    unfold dg
    rw [e, tx_list]
  have l50 : (dg k).length ≤ 50 := by rw [el]; exact f 49 h1
  have lp := List.length_pos_iff.mpr d.ne
  unfold figM
  have n3 : (decide ((dg k)[0]? = some 48) && decide (1 < (dg k).length)) = false := by
    rw [Bool.and_eq_false_iff]
    by_cases c : (dg k)[0]? = some 48
    · have := d.zero c
      exact .inr (decide_eq_false (by omega))
    · exact .inl (decide_eq_false c)
  rw [decide_eq_true (show 1 ≤ (dg k).length by omega), decide_eq_true l50, n3]
  show (dg k).all figB = true
  rw [List.all_eq_true]
  intro x hx
  have := d.all x hx
  unfold figB
  simp
  omega
theorem row_grid {nm : List Nat} {k : Int} (h : nmB nm = true) (hk : figM 50 (dg k) = true) : rowOf (glu 32 [gridL, nm, dg k]) = some [gridL, nm, dg k] :=
  row_of (f := ["name", "number"]) (by rfl) rfl (by decide) (fun p hp => by
    have : p = nm := by simpa [List.dropLast] using hp
    rw [this]; exact nm_free h) (by simp only [fitsB, fit_name, fit_number, h, hk]; rfl)
theorem row_check {n1 n2 t : List Nat} (h1 : nmB n1 = true) (h2 : nmB n2 = true) : rowOf (glu 32 [checkL, n1, n2, t]) = some [checkL, n1, n2, t] :=
  row_of (f := ["name", "name", "text"]) (by rfl) rfl (by decide) (fun p hp => by
    have : p = n1 ∨ p = n2 := by simpa [List.dropLast] using hp
    rcases this with rfl | rfl
    · exact nm_free h1
    · exact nm_free h2) (by simp only [fitsB, fit_name, fit_text, h1, h2]; rfl)
theorem grd_kp {k : Int} (h0 : 1 ≤ k) (h1 : k ≤ 10 ^ 20) : KpP (grd k) := by
  have m : k * k ≤ 10 ^ 20 * 10 ^ 20 := Int.mul_le_mul h1 h1 (by omega) (by decide)
  have le : k ≤ k * k := by have := Int.mul_le_mul (show 1 ≤ k by omega) (Int.le_refl k) (by omega) (by omega); omega
  have e : (10 : Int) ^ 20 * 10 ^ 20 < 2 ^ 900 := by decide +kernel
  have e2 : (10 : Int) ^ 20 < 2 ^ 900 := by decide +kernel
  refine ⟨fun u hu => ?_, fun u hu => ?_, by show 2 ≤ 12; decide⟩
  · simp only [grd, List.mem_cons, List.not_mem_nil, or_false] at hu
    rcases hu with rfl | rfl
    · refine ⟨?_, ?_, ?_, ?_, ?_⟩ <;> dsimp only <;> omega
    · refine ⟨?_, ?_, ?_, ?_, ?_⟩ <;> dsimp only <;> omega
  · simp only [grd, List.mem_cons, List.not_mem_nil, or_false] at hu
    rcases hu with rfl | rfl
    · dsimp only; omega
    · dsimp only; omega
theorem grid_right {l r : Int} (l1 : 1 ≤ l) (r1 : 1 ≤ r) : rightB (shs (grd l) (grd r)) 1 0 (.inn (if l < r then 1 else 2)) = true := by
  by_cases c : l < r
  · rw [if_pos c]
    refine right_two (u0 := (l, 0, 1)) (u1 := (l * l, 0, l)) (v0 := (r, 0, 1)) (v1 := (r * r, 0, r)) (i := 0) (j := 1) (by decide) (by decide) l1 ?_
    have := gcdI_le_left (a := l) (r * r) (by omega)
    show gcdI l (r * r) ≤ 1 + r - 1
    omega
  · rw [if_neg c]
    have sq : 1 ≤ l * l := Int.mul_pos (by omega) (by omega)
    refine right_two (u0 := (l, 0, 1)) (u1 := (l * l, 0, l)) (v0 := (r, 0, 1)) (v1 := (r * r, 0, r)) (i := 1) (j := 0) (by decide) (by decide) sq ?_
    have := gcdI_le_left (a := r) (l * l) (by omega)
    rw [gcdI_comm] at this
    show gcdI (l * l) r ≤ l + 1 - 1
    omega
theorem grid_prd {l r : Int} (l1 : 1 ≤ l) (r1 : 1 ≤ r) : prd (grd l) (grd r) (if l < r then 1 else 2) = lcms [max l r * max l r, min l r] := by
  have sl : 1 ≤ l * l := Int.mul_pos (by omega) (by omega)
  have sr : 1 ≤ r * r := Int.mul_pos (by omega) (by omega)
  by_cases c : l < r
  · rw [if_pos c, show max l r = r by omega, show min l r = l by omega]
    have e : prd (grd l) (grd r) 1 = lcms [l, r * r] := by
      unfold prd
      have e1 : ((1 : Int) / ((grd r).length : Int)).toNat = 0 := by show ((1 : Int) / ((2 : Nat) : Int)).toNat = 0; decide
      have e2 : ((1 : Int) % ((grd r).length : Int)).toNat = 1 := by show ((1 : Int) % ((2 : Nat) : Int)).toNat = 1; decide
      rw [e1, e2]
      rfl
    rw [e, lcms2 l1, lcms2 sr, gcdI_comm, Int.mul_comm]
  · rw [if_neg c, show max l r = l by omega, show min l r = r by omega]
    unfold prd
    have e1 : ((2 : Int) / ((grd r).length : Int)).toNat = 1 := by show ((2 : Int) / ((2 : Nat) : Int)).toNat = 1; decide
    have e2 : ((2 : Int) % ((grd r).length : Int)).toNat = 0 := by show ((2 : Int) % ((2 : Nat) : Int)).toNat = 0; decide
    rw [e1, e2]
    rfl
def rwL : List Nat := (Str.ofString "right within ").cps.toList
theorem rwT_tx (M : Int) : rwT M = tx (rwL ++ dg M) := by
  unfold rwT
  rw [dg_text, show Str.ofString "right within " = tx rwL from (tx_cps _).symm, tx_plus]
theorem slice_toN {l : List Nat} {n : Nat} (h : n ≤ l.length) : Txt.slice (tx l) none (some (n : Int)) = tx (l.take n) := by
  have e : Txt.slice (tx l) none (some (n : Int)) = Txt.slice (tx l) (some ((0 : Nat) : Int)) (some (n : Int)) := by
    show StrLaws.sliceText _ _ _ = StrLaws.sliceText _ _ _
    have e0 : max (0 : Int) (min 0 (l.length : Int)) = 0 := by omega
    unfold StrLaws.sliceText
    rw [tx_len]
    simp [Builtin.Str.strSliceIndices, e0]
  rw [e, slice_at (Nat.zero_le _) h]
  rfl
theorem sq_offD {H H' : Hp} {c pd : Addr} {xs : List V} {kv : List (Key × V)} (h : SqL K H c xs) (hp : H pd = some (.dK kv)) (g : OffD pd H H') : SqL K H' c xs := by
  rcases h with (h | ⟨o, h⟩) | h
  · exact .inl (.inl (g _ _ (ne_of h hp (by intro z; cases z)) h))
  · exact .inl (.inr ⟨o, g _ _ (ne_of h hp (by intro z; cases z)) h⟩)
  · exact .inr h
theorem h_law {C : Addr} (cl_Desk : Cls K C) (mk_Desk : PySem.W.makesIn K C = true) (kc_Desk : PySem.W.keepIn K (.ref C) = true) (mg_Desk : mg "Desk" = some (.ref C)) (T : TF K mg "law" s_law) (m_len : mg "len" = none) (m_min : mg "min" = none) (m_max : mg "max" = none) (m_str : mg "str" = none) (m_isinstance : mg "isinstance" = none) (m_range : mg "range" = none) (G_Desk___init__ : HasM P w K mg base 1 C "__init__" ["self"] (sp_dinit C)) (G_Desk_told : HasM P w K mg base 10 C "told" ["self", "row"] (sp_told92 K C)) (G_law_cell_at : Has P w K mg base 1 "_law_cell_at" ["script", "k"] (sp_cell_at K)) (G_law_size : Has P w K mg base 1 "_law_size" ["cell"] sp_size) (G_law_great : Has P w K mg base 1 "_law_great" ["cell"] sp_great92) (G_law_divisor : Has P w K mg base 1 "_law_divisor" ["one", "other"] sp_law_divisor) (G_law_met : Has P w K mg base 11 "_law_met" ["desk", "sizes", "shift", "turn", "wait", "between"] (sp_lmet C)) (G_law_read : Has P w K mg base 1 "_law_read" ["word"] sp_lread) (G_shown_paper : Has P w K mg base 1 "shown_paper" ["paper"] sp_shown1) (G_grid_paper : Has P w K mg base 1 "grid_paper" ["one", "other"] sp_grid_paper) : Has P w K mg base 12 "law" ["script"] (sp_law K) := by
  refine T.has sc_law (fun _ _ _ _ _ _ us hl => match us, hl with | [_], _ => rfl) (fun vs H Q E h => ?_) (fun f cdv A outer s H vs Q E hr h => ?_)
  · obtain ⟨a, ns, rfl, _⟩ := h
    rfl
  obtain ⟨a, ns, rfl, hS, h63, hbits, q⟩ := h
  refine ⟨_, (pss_cons (ps_set (i := 1) sc_law.nd rfl (Or.inl rfl) (pe_lst (pa_cons (pe_def (G_law_size.mono (by first | decide | omega)) hr (pa_cons (pe_def (G_law_cell_at.mono (by first | decide | omega)) hr (pa_cons (pv 0) (pa_cons pe_int pa_nil))) pa_nil)) (pa_cons (pe_def (G_law_size.mono (by first | decide | omega)) hr (pa_cons (pe_def (G_law_cell_at.mono (by first | decide | omega)) hr (pa_cons (pv 0) (pa_cons pe_int pa_nil))) pa_nil)) pa_nil)))) (pss_cons (ps_cut (ps_set (i := 2) sc_law.nd rfl (Or.inl rfl) (pe_mk0 (G_Desk___init__.mono (by first | decide | omega)) mk_Desk kc_Desk hr rfl mg_Desk))) (pss_cons (ps_cut (ps_if (PW.pt (pw_or (pt_cmpR op_ne (pe_mth (pv 2) cl_Desk (G_Desk_told.mono (by first | decide | omega)) hr (pa_cons (pe_op op_add_str pe_str (pe_callTy call_str_int rfl m_str (by decide +kernel) (pa_cons (pe_ix ix_list (pv 1) pe_int (fun _ _ => rfl)) pa_nil))) pa_nil)) pe_str (nomark _)) (pw_or1 (pt_cmpR op_ne (pe_mth (pv 2) cl_Desk (G_Desk_told.mono (by first | decide | omega)) hr (pa_cons (pe_op op_add_str pe_str (pe_callTy call_str_int rfl m_str (by decide +kernel) (pa_cons (pe_ix ix_list (pv 1) pe_int (fun _ _ => rfl)) pa_nil))) pa_nil)) pe_str (nomark _))))) (pss_one (ps_ret pe_bl)) pss_nil)) (pss_cons (ps_set (i := 3) sc_law.nd rfl (Or.inl rfl) (pe_op op_mulA (pe_callB (call_maxI rfl) rfl m_max (by decide +kernel) (pa_cons (pv 1) pa_nil)) (pe_callB (call_maxI rfl) rfl m_max (by decide +kernel) (pa_cons (pv 1) pa_nil)))) (pss_cons (ps_cut (ps_set (i := 4) sc_law.nd rfl (Or.inl rfl) (pe_op op_mulA (pe_op op_fdivA (pv 3) (pe_def (G_law_divisor.mono (by first | decide | omega)) hr (pa_cons (pv 3) (pa_cons (pe_callB (call_minI rfl) rfl m_min (by decide +kernel) (pa_cons (pv 1) pa_nil)) pa_nil)))) (pe_callB (call_minI rfl) rfl m_min (by decide +kernel) (pa_cons (pv 1) pa_nil))))) (pss_cons (ps_cut (ps_set (i := 5) sc_law.nd rfl (Or.inl rfl) (pe_op op_cat (pe_slice sl_list (pv 0) (po_some pe_int) (po_some pe_int)) (pe_lst (pa_cons (pe_def (G_law_cell_at.mono (by first | decide | omega)) hr (pa_cons (pv 0) (pa_cons pe_int pa_nil))) (pa_cons pe_int pa_nil)))))) (pss_cons (ps_cut (ps_for PassesOwn.never rfl (pi_range3 rfl m_range (pa_cons pe_int (pa_cons (pe_op op_sub (pe_callB call_len_seq rfl m_len PySem.boot_len (pa_cons (pv 5) pa_nil)) pe_int) (pa_cons pe_int pa_nil)))) (pg_name (i := 6) sc_law.nd rfl (Or.inl rfl)) (pss_cons (ps_set (i := 7) sc_law.nd rfl (Or.inl rfl) (pe_def (G_law_great.mono (by first | decide | omega)) hr (pa_cons (pe_ix ix_list (pv 5) (pv 6) (fun _ _ => rfl)) pa_nil))) (pss_cons (ps_set (i := 8) sc_law.nd rfl (Or.inl rfl) (pe_def (G_law_great.mono (by first | decide | omega)) hr (pa_cons (pe_ix ix_list (pv 5) (pe_op op_add (pv 6) pe_int) (fun _ _ => rfl)) pa_nil))) (pss_one (ps_if (pt_not (pt_val (pe_def (G_law_met.mono (by first | decide | omega)) hr (pa_cons (pv 2) (pa_cons (pv 1) (pa_cons (pv 7) (pa_cons (pv 8) (pa_cons (pv 4) (pa_cons (pe_op op_fdivA (pe_ix ix_list (pv 5) (pv 6) (fun _ _ => rfl)) pe_int) pa_nil))))))) (fun _ => rfl))) (pss_one (ps_ret pe_bl)) pss_nil)))))) (pss_cons (ps_cut (ps_set (i := 9) sc_law.nd rfl (Or.inl rfl) (pe_mth (pv 2) cl_Desk (G_Desk_told.mono (by first | decide | omega)) hr (pa_cons (pe_op op_add_str pe_str (pe_def (G_shown_paper.mono (by first | decide | omega)) hr (pa_cons (pe_def (G_grid_paper.mono (by first | decide | omega)) hr (pa_cons (pe_ix ix_list (pv 1) pe_int (fun _ _ => rfl)) (pa_cons (pe_ix ix_list (pv 1) pe_int (fun _ _ => rfl)) pa_nil))) pa_nil))) pa_nil)))) (pss_cons (ps_cut (ps_if (PW.pt (pw_or (pt_not (pt_val (pe_callB call_isI rfl m_isinstance (by decide +kernel) (pa_cons (pv 9) (pa_cons (pe_bltn (v := .ty "str") rfl m_str (by decide +kernel) rfl) pa_nil))) (fun _ => rfl))) (pw_or1 (pt_cmpR op_ne (pe_slice sl_str (pv 9) po_none (po_some pe_int)) pe_str (nomark _))))) (pss_one (ps_ret pe_bl)) pss_nil)) (pss_cons (ps_set (i := 10) sc_law.nd rfl (Or.inl rfl) (pe_def (G_law_read.mono (by first | decide | omega)) hr (pa_cons (pe_slice sl_str (pv 9) (po_some pe_int) po_none) pa_nil))) (pss_one (ps_ret (pe_and (pe_cmpR op_notN (pv 10) pe_non (nomark _)) (pe_one (pe_chain op_le op_le pe_int (pv 10) (pv 4)))))))))))))))), ?_⟩
  walk_at "wpd"
  refine ⟨a, ns, 0, rfl, hS, by decide, _, rfl, fun s1 p1 p2 => ⟨a, ns, 1, rfl, hS, by decide, _, rfl, fun s2 p3 p4 S nS => ?_⟩⟩
  have g0 := same_new nS (.lst [V.int s1, V.int s2])
  have hZ := upd_same (H := H) (a := S) (o := .lst [V.int s1, V.int s2])
  generalize upd H S (.lst [V.int s1, V.int s2]) = H0 at g0 hZ ⊢
  have hS0 := g0.seq hS
  obtain ⟨M, hM⟩ : ∃ M : Addr → Addr → Nat → Book → Hp → Prop, M = fun d pd n L H' => Dsk C H' d pd n L ∧ H' S = some (.lst [V.int s1, V.int s2]) ∧ SqL K H' a (ns.map V.int) := ⟨_, rfl⟩
  refine ⟨fun σ H' => ∃ d pd, σ = [some (.ref a), some (.ref S), some (.ref d), none, none, none, none, none, none, none, none] ∧ M d pd 0 (fun _ => none) H', ?_, ?_⟩
  · walk_at "wpd"
    intro x dx nx ndx _
    refine ⟨x, dx, rfl, upd_same, fun pd H2 dk np off => ⟨rfl, x, pd, rfl, ?_⟩⟩
    rw [hM]
    have S1 : Same H0 H2 := fun b o e => off b o (ne_of_none e nx) (by rw [upd_ne (ne_of_none e nx), upd_ne (ne_of_none e ndx)]; exact e)
    exact ⟨dk, S1 _ _ hZ, S1.seq hS0⟩
  have e100 : (10 : Int) ^ 20 < 10 ^ 100 := by decide +kernel
  have e50 : (10 : Int) ^ 20 < 10 ^ 50 := by decide +kernel
  have e400 : (10 : Int) ^ 20 < 2 ^ 400 := by decide +kernel
  have sg1 := sgOk (n := s1) (by omega) (by omega)
  have sg2 := sgOk (n := s2) (by omega) (by omega)
  have f1 := fig50 (k := s1) (by omega) (by omega)
  have f2 := fig50 (k := s2) (by omega) (by omega)
  have ld1 := sg1.len
  have ld2 := sg2.len
  have hA' : nmB annL = true := by decide
  have hB' : nmB bobL = true := by decide
  have tokG : ∀ {nm : List Nat} {s : Int}, nmB nm = true → SgOk s → TxOk (glu 32 [gridL, nm, dg s]) := fun {nm s} h hs => by
    have ln := nm_small h
    have ld := hs.len
    refine ⟨Nat.le_trans (glu_len (M := 101) fun x hx => ?_) (by show 3 * 102 ≤ 100000; decide), glu_all (Pz := fun x => x < 128) (by decide) fun x hx => ?_⟩
    · simp only [List.mem_cons, List.not_mem_nil, or_false] at hx
      rcases hx with rfl | rfl | rfl
      · decide
      · omega
      · omega
    · simp only [List.mem_cons, List.not_mem_nil, or_false] at hx
      rcases hx with rfl | rfl | rfl
      · decide
      · exact ln.2
      · exact sg_small hs
  have eA : Str.ofString "grid ann " = tx (gridL ++ [32] ++ annL ++ [32]) := by decide +kernel
  have eB : Str.ofString "grid bob " = tx (gridL ++ [32] ++ bobL ++ [32]) := by decide +kernel
  have lA : (gridL ++ [32] ++ annL ++ [32]).length = 9 := rfl
  have lB : (gridL ++ [32] ++ bobL ++ [32]).length = 9 := rfl
  have eGA : gridL ++ [32] ++ annL ++ [32] ++ dg s1 = glu 32 [gridL, annL, dg s1] := by simp [glu]
  have eGB : gridL ++ [32] ++ bobL ++ [32] ++ dg s2 = glu 32 [gridL, bobL, dg s2] := by simp [glu]
  rintro σ H1 ⟨d, pd, rfl, h⟩
  rw [hM] at h
  obtain ⟨hk, hZ1, hS1⟩ := h
  walk_at "wpd"
  obtain ⟨L, hL⟩ : ∃ L : Book, L = setB (setB (fun _ => none) annS (grd s1)) bobS (grd s2) := ⟨_, rfl⟩
  refine ⟨fun σ H' => σ = [some (.ref a), some (.ref S), some (.ref d), none, none, none, none, none, none, none, none] ∧ M d pd 2 L H', ?_, ?_⟩
  · walk_at "wpd"
    obtain ⟨dx, hd⟩ := hk.1
    obtain ⟨kv, hp, _⟩ := hk.2
    refine ⟨d, dx, _, rfl, hd, td_no _, rIxL_mk (SqL.of hZ1) (atI_nat (j := 0) rfl) ⟨s1, rfl, sg1.sz, ?_⟩⟩
    rw [dg_text, eA]
    refine ⟨_, _, rfl, rfl, by rw [tx_len, tx_len]; omega, ?_⟩
    rw [tx_plus, eGA]
    refine ⟨d, pd, _, 0, _, rfl, hk, by decide, tokG hA' sg1, .inl ⟨annL, dg s1, s1, row_grid hA' f1, sg1.rd, by omega, p1, by omega, grd_kp p1 p2, fun H2 off dk => ⟨rfl, _, rfl, (fun c => absurd c (by simp)), fun _ => ?_⟩⟩⟩
    obtain ⟨dx2, hd2⟩ := dk.1
    obtain ⟨kv2, hp2, _⟩ := dk.2
    have hZ2 := off _ _ (ne_of hZ1 hp (by intro z; cases z)) hZ1
    have hS2 := sq_offD hS1 hp off
    refine ⟨d, dx2, _, rfl, hd2, td_no _, rIxL_mk (SqL.of hZ2) (atI_nat (j := 1) rfl) ⟨s2, rfl, sg2.sz, ?_⟩⟩
    rw [dg_text, eB]
    refine ⟨_, _, rfl, rfl, by rw [tx_len, tx_len]; omega, ?_⟩
    rw [tx_plus, eGB]
    refine ⟨d, pd, _, 1, _, rfl, dk, by decide, tokG hB' sg2, .inl ⟨bobL, dg s2, s2, row_grid hB' f2, sg2.rd, by omega, p3, by omega, grd_kp p3 p4, fun H3 off3 dk3 => ⟨rfl, _, rfl, (fun c => absurd c (by simp)), fun _ => ?_⟩⟩⟩
    rw [hM]
    refine ⟨?_, off3 _ _ (ne_of hZ2 hp2 (by intro z; cases z)) hZ2, sq_offD hS2 hp2 off3⟩
    rw [hL]
    exact dk3
  rintro σ H2 ⟨rfl, h⟩
  rw [hM] at h
  obtain ⟨hk2, hZ2, hS2⟩ := h
  walk_at "wpd"
  have mxs : ∀ M, M ∈ [s1, s2] → (∀ z ∈ [s1, s2], z ≤ M) → M = max s1 s2 := fun M m1 m2 => by
    have a1 := m2 s1 (by simp)
    have a2 := m2 s2 (by simp)
    simp only [List.mem_cons, List.not_mem_nil, or_false] at m1
    omega
  have mns : ∀ M, M ∈ [s1, s2] → (∀ z ∈ [s1, s2], M ≤ z) → M = min s1 s2 := fun M m1 m2 => by
    have a1 := m2 s1 (by simp)
    have a2 := m2 s2 (by simp)
    simp only [List.mem_cons, List.not_mem_nil, or_false] at m1
    omega
  obtain ⟨G, hG⟩ : ∃ G, G = max s1 s2 := ⟨_, rfl⟩
  obtain ⟨m, hm⟩ : ∃ m, m = min s1 s2 := ⟨_, rfl⟩
  have G1 : 1 ≤ G := by omega
  have G2 : G ≤ 10 ^ 20 := by omega
  have m1 : 1 ≤ m := by omega
  have m2 : m ≤ 10 ^ 20 := by omega
  have q1 : 1 ≤ G * G := Int.mul_pos (by omega) (by omega)
  have q2 : G * G ≤ 10 ^ 20 * 10 ^ 20 := Int.mul_le_mul G2 G2 (by omega) (by decide)
  have gp : 0 < gcdI (G * G) m := gcdI_pos (.inl (by omega))
  have gl : gcdI (G * G) m ≤ m := by rw [gcdI_comm]; exact gcdI_le_left (G * G) (by omega)
  obtain ⟨W, hW⟩ : ∃ W, W = G * G / gcdI (G * G) m * m := ⟨_, rfl⟩
  have W1 : lcms [max s1 s2 * max s1 s2, min s1 s2] = W := by
    rw [← hG, ← hm, hW, lcms2 q1, Int.mul_ediv_assoc' m (gcdI_dvd_left _ _)]
  have dv : G * G / gcdI (G * G) m ≤ G * G := Int.ediv_le_self _ (by omega)
  have dv0 : 0 ≤ G * G / gcdI (G * G) m := Int.ediv_nonneg (by omega) (by omega)
  have W2 : W ≤ 10 ^ 60 := by
    rw [hW]
    have : G * G / gcdI (G * G) m * m ≤ (10 ^ 20 * 10 ^ 20) * 10 ^ 20 := Int.mul_le_mul (by omega) m2 (by omega) (by decide)
    exact Int.le_trans this (by decide +kernel)
  have W0 : 1 ≤ W := by
    have pos : ∀ x ∈ [max s1 s2 * max s1 s2, min s1 s2], 1 ≤ x := fun x hx => by
      rw [← hG, ← hm] at hx
      simp only [List.mem_cons, List.not_mem_nil, or_false] at hx
      rcases hx with rfl | rfl <;> omega
    have := lcms_pos pos
    rw [W1] at this
    omega
  have e99 : (10 : Int) ^ 60 < 10 ^ 99 := by decide +kernel
  have wl : (dg W).length ≤ 99 := dg_len99 (by omega) (by omega)
  have rl : rwL.length = 13 := by decide +kernel
  have LA : L annS = some (grd s1) := by
    rw [hL]
    unfold setB
    rw [if_neg (by decide +kernel), if_pos rfl]
  have LB : L bobS = some (grd s2) := by
    rw [hL]
    unfold setB
    rw [if_pos rfl]
  refine ⟨S, [s1, s2], rfl, SqL.of hZ2, by simp, fun M m1 m2 => ⟨S, [s1, s2], rfl, SqL.of hZ2, by simp, fun M2 m3 m4 => ?_⟩⟩
  obtain rfl := (mxs M m1 m2).trans hG.symm
  obtain rfl := (mxs M2 m3 m4).trans hG.symm
  refine ⟨mok 400 400 (by omega) (by omega) (by decide), ?_⟩
  refine ⟨fun σ H' => σ = [some (.ref a), some (.ref S), some (.ref d), some (.int (M2 * M2)), some (.int W), none, none, none, none, none, none] ∧ H' = H2, ?_, ?_⟩
  · walk_at "wpd"
    refine ⟨S, [s1, s2], rfl, SqL.of hZ2, by simp, fun M' k1 k2 => ?_⟩
    obtain rfl := (mns M' k1 k2).trans hm.symm
    refine ⟨_, _, rfl, by omega, by omega, _, _, rfl, rfl, divA 100 gp (by omega) (by decide), S, [s1, s2], rfl, SqL.of hZ2, by simp, fun M3 k3 k4 => ?_⟩
    have e3 : M3 = M' := (mns M3 k3 k4).trans hm.symm
    rw [e3]
    exact ⟨_, _, rfl, rfl, mok 200 100 (by omega) (by omega) (by decide), by rw [hW], rfl⟩
  rintro σ H3 ⟨rfl, rfl⟩
  walk_at "wpd"
  obtain ⟨N, hN⟩ : ∃ N : Addr → List Int → Hp → Prop, N = fun D zs H' => Dsk C H' d pd 2 L ∧ H' S = some (.lst [V.int s1, V.int s2]) ∧ SqL K H' D (zs.map V.int) ∧ zs.length ≤ 100 := ⟨_, rfl⟩
  refine ⟨fun σ H' => ∃ D zs, σ = [some (.ref a), some (.ref S), some (.ref d), some (.int (M2 * M2)), some (.int W), some (.ref D), none, none, none, none, none] ∧ N D zs H', ?_, ?_⟩
  · walk_at "wpd"
    refine ⟨a, _, rfl, hS2, fun p np => ?_⟩
    rw [cutV_map]
    have lc : (cutI ns (some 2) (some 22)).length ≤ 63 := by unfold cutI; simp; omega
    generalize cutI ns (some 2) (some 22) = cs at lc ⊢
    have gq := same_new np (.lst (cs.map V.int))
    have hq := upd_same (H := H3) (a := p) (o := .lst (cs.map V.int))
    generalize upd H3 p (.lst (cs.map V.int)) = H4 at gq hq ⊢
    refine ⟨a, ns, 1, rfl, gq.seq hS2, by decide, fun p2 np2 => ?_⟩
    have gr := same_new np2 (.lst [V.int (ns.getD (1 : Int).toNat 0), V.int 3])
    have hr2 := upd_same (H := H4) (a := p2) (o := .lst [V.int (ns.getD (1 : Int).toNat 0), V.int 3])
    generalize upd H4 p2 (.lst [V.int (ns.getD (1 : Int).toNat 0), V.int 3]) = H5 at gr hr2 ⊢
    refine ⟨p, p2, _, _, rfl, rfl, gr _ _ hq, hr2, by rw [sizeLine_eq, List.length_map]; show _ + 2 ≤ _; omega, fun p3 np3 => ⟨p3, cs ++ [ns.getD (1 : Int).toNat 0, 3], rfl, ?_⟩⟩
    rw [hN]
    have g3 := (gq.trans gr).trans (same_new np3 (.lst (cs.map V.int ++ [V.int (ns.getD (1 : Int).toNat 0), V.int 3])))
    exact ⟨hk2.same g3, g3 _ _ hZ2, SqL.of (by rw [upd_same, List.map_append]; rfl), by simp; omega⟩
  rintro σ H4 ⟨D, zs, rfl, h⟩
  walk_at "wpd"
  refine ⟨fun σ H' => ∃ o1 o2 o3, σ = [some (.ref a), some (.ref S), some (.ref d), some (.int (M2 * M2)), some (.int W), some (.ref D), o1, o2, o3, none, none] ∧ N D zs H', ?_, ?_⟩
  · walk_at "wpd"
    rw [hN] at h
    obtain ⟨hk4, hZ4, hD4, hl4⟩ := h
    refine ⟨D, _, rfl, .inl hD4, 0, _, 2, (Builtin.Range.rangeSize 0 _ 2).toNat, rfl, by decide, by decide, rsN (by decide), ?_⟩
    obtain ⟨Pv, hPv⟩ : ∃ Pv : Nat → St → Hp → Prop, Pv = fun i σ H' => ∃ o1 o2 o3, σ = [some (.ref a), some (.ref S), some (.ref d), some (.int (M2 * M2)), some (.int W), some (.ref D), o1, o2, o3, none, none] ∧ N D zs H' := ⟨_, rfl⟩
    refine forW_its Pv (by rw [hPv, hN]; exact ⟨_, _, _, rfl, hk4, hZ4, hD4, hl4⟩) (fun i σ H5 hi h => ?_) (fun σ H5 h => by rw [hPv] at h; exact h)
    rw [hPv, hN] at h
    obtain ⟨o1, o2, o3, rfl, hk5, hZ5, hD5, hl5⟩ := h
    have lt := rsLt (by decide) hi
    rw [List.length_map] at lt
    walk_at "wpd"
    refine rIxL_mk hD5 (atI_getD (by omega) (by omega)) ⟨_, rfl, fun sh H6 g6 t0 t1 => rIxL_mk (g6.seq hD5) (atI_getD (by omega) (by omega)) ⟨_, rfl, fun u H7 g7 u0 u1 => ?_⟩⟩
    have g67 := g6.trans g7
    refine rIxL_mk (g67.seq hD5) (atI_getD (by omega) (by omega)) ⟨_, _, rfl, rfl, divA 10 (by decide) (by decide) (by decide), d, pd, S, 2, L, s1, s2, sh, u, W, _, rfl, hk5.same g67, by decide, g67 _ _ hZ5, LA, LB, p1, p2, p3, p4, t0, t1, u0, u1, W1, W2, fun H8 g8 => ⟨_, rfl, (fun c => nomatch c), fun _ => ?_⟩⟩
    rw [hPv, hN]
    exact ⟨_, _, _, rfl, (hk5.same g67).same g8, g8 _ _ (g67 _ _ hZ5), g8.seq (g67.seq hD5), hl5⟩
  rintro σ H5 ⟨o1, o2, o3, rfl, h5⟩
  rw [hN] at h5
  obtain ⟨hk5, hZ5, _, _⟩ := h5
  walk_at "wpd"
  obtain ⟨B, hB0⟩ : ∃ B : Int, B = W := ⟨_, rfl⟩
  refine ⟨fun σ H' => σ = [some (.ref a), some (.ref S), some (.ref d), some (.int (M2 * M2)), some (.int W), some (.ref D), o1, o2, o3, some (.str (tx (rwL ++ dg W))), none], ?_, ?_⟩
  · walk_at "wpd"
    obtain ⟨dx, hd⟩ := hk5.1
    have dk : DgOk (if s1 < s2 then 1 else 2) := dgOk (by split <;> decide) (by split <;> decide)
    have dl := dk.len
    refine ⟨d, dx, _, rfl, hd, td_no _, rIxL_mk (SqL.of hZ5) (atI_nat (j := 0) rfl) (rIxL_mk (SqL.of hZ5) (atI_nat (j := 1) rfl) ⟨s1, s2, rfl, fun b H6 g6 hb => ⟨b, _, rfl, hb, dk, ?_⟩⟩)⟩
    have eC : Str.ofString "check ann bob " = tx (checkL ++ [32] ++ annL ++ [32] ++ bobL ++ [32]) := by decide +kernel
    have lC : (checkL ++ [32] ++ annL ++ [32] ++ bobL ++ [32]).length = 14 := rfl
    have lI : inL.length = 3 := rfl
    rw [eC]
    refine ⟨_, _, rfl, rfl, by rw [tx_len, tx_len, lC, List.length_append, lI]; omega, ?_⟩
    generalize hkk : (if s1 < s2 then (1 : Int) else 2) = kk at dk dl hb ⊢
    have eG : checkL ++ [32] ++ annL ++ [32] ++ bobL ++ [32] ++ (inL ++ dg kk) = glu 32 [checkL, annL, bobL, inL ++ dg kk] := by simp [glu]
    have tokC : TxOk (glu 32 [checkL, annL, bobL, inL ++ dg kk]) := by
      refine ⟨Nat.le_trans (glu_len (M := 103) fun x hx => ?_) (by show 4 * 104 ≤ 100000; decide), glu_all (Pz := fun x => x < 128) (by decide) fun x hx => ?_⟩
      · simp only [List.mem_cons, List.not_mem_nil, or_false] at hx
        rcases hx with rfl | rfl | rfl | rfl
        · decide
        · decide
        · decide
        · rw [List.length_append, lI]; omega
      · simp only [List.mem_cons, List.not_mem_nil, or_false] at hx
        rcases hx with rfl | rfl | rfl | rfl
        · decide
        · decide
        · decide
        · intro y hy
          rcases List.mem_append.mp hy with hy | hy
          · exact (show ∀ z ∈ inL, z < 128 by decide) y hy
          · have := dk.all y hy
            omega
    rw [tx_plus, eG]
    have gr := grid_right (l := s1) (r := s2) p1 p3
    have gd := grid_prd (l := s1) (r := s2) p1 p3
    rw [hkk] at gr gd
    rw [W1] at gd
    have e1900 : (10 : Int) ^ 60 < 2 ^ 1900 := by decide +kernel
    refine ⟨d, pd, _, 2, L, rfl, hk5.same g6, by decide, tokC, .inr (.inr ⟨annL, bobL, kk, grd s1, grd s2, row_check hA' hB', dk, LA, LB, gr, by rw [gd]; omega, by rw [gd]; omega, fun H7 g7 => ?_⟩)⟩
    rw [gd, rwT_tx]
  rintro σ H6 rfl
  walk_at "wpd"
  refine ⟨fun σ H' => σ = [some (.ref a), some (.ref S), some (.ref d), some (.int (M2 * M2)), some (.int W), some (.ref D), o1, o2, o3, some (.str (tx (rwL ++ dg W))), none], ?_, ?_⟩
  · walk_at "wpd"
    refine ⟨_, _, _, true, rfl, .str _, rfl, true, rfl, (fun c => nomatch c), fun _ => ⟨_, rfl, by rw [tx_len, sizeLine_eq, List.length_append, rl]; omega, ?_⟩⟩
    have e13 : Txt.slice (tx (rwL ++ dg W)) none (some 13) = Str.ofString "right within " := by
      have := slice_toN (l := rwL ++ dg W) (n := 13) (by rw [List.length_append, rl]; omega)
      have e2 : (rwL ++ dg W).take 13 = rwL := by rw [← rl, List.take_left]
      rw [e2] at this
      exact this.trans (tx_cps _)
    rw [e13]
    exact ⟨rfl, _, rfl, fun c => absurd c (by simp)⟩
  rintro σ H7 rfl
  walk_at "wpd"
  refine ⟨_, rfl, by rw [tx_len, sizeLine_eq, List.length_append, rl]; omega, ?_⟩
  have e13 : Txt.slice (tx (rwL ++ dg W)) (some 13) none = tx (dg W) := by
    have := slice_from (l := rwL ++ dg W) (i := 13) (by rw [List.length_append, rl]; omega)
    have e2 : (rwL ++ dg W).drop 13 = dg W := by rw [← rl, List.drop_left]
    rw [e2] at this
    exact this
  rw [e13]
  refine ⟨W, rfl, by omega, by omega, fun _ => ⟨1, W, rfl, rfl, _, rfl, fun _ => ⟨W, W, rfl, rfl, ?_⟩, fun c => ?_⟩, fun c => absurd (fun z => nomatch z) c⟩
  · show Q (.bl (decide (W ≤ W))) H7
    rw [decide_eq_true (Int.le_refl W)]
    exact q _
  · exact absurd (decide_eq_true W0) c

theorem fin {fa : Addr} {h : Heap} (KX : K.In h) (G : h.Ns mainGlobals mg) (hfa : mg "law" = some (.ref fa)) (T_divisor : TF K mg "divisor" s_divisor) (T_least_round : TF K mg "least_round" s_least_round) (T_shifts_of_two : TF K mg "shifts_of_two" s_shifts_of_two) (T_shifts : TF K mg "shifts" s_shifts) (T_lies_in : TF K mg "lies_in" s_lies_in) (T_right_for : TF K mg "right_for" s_right_for) (T_part_of_part : TF K mg "part_of_part" s_part_of_part) (T_lets_by : TF K mg "lets_by" s_lets_by) (T_lets_meet : TF K mg "lets_meet" s_lets_meet) (T_paper_names : TF K mg "paper_names" s_paper_names) (T_pair_of : TF K mg "pair_of" s_pair_of) (T_pair_round : TF K mg "pair_round" s_pair_round) (T_paper_wait : TF K mg "paper_wait" s_paper_wait) (T_divided_up : TF K mg "divided_up" s_divided_up) (T_climbed : TF K mg "climbed" s_climbed) (T_first_hit : TF K mg "first_hit" s_first_hit) (T_awake : TF K mg "awake" s_awake) (T_shifted : TF K mg "shifted" s_shifted) (T_together : TF K mg "together" s_together) (T_next_together : TF K mg "next_together" s_next_together) (T_next_begin : TF K mg "next_begin" s_next_begin) (T_grid_plan : TF K mg "grid_plan" s_grid_plan) (T_grid_paper : TF K mg "grid_paper" s_grid_paper) (T_read_number : TF K mg "read_number" s_read_number) (T_is_figures : TF K mg "is_figures" s_is_figures) (T_shown_paper : TF K mg "shown_paper" s_shown_paper) (T_read_paper : TF K mg "read_paper" s_read_paper) (T_words_of : TF K mg "words_of" s_words_of) (T_fits : TF K mg "fits" s_fits) (T_is_name : TF K mg "is_name" s_is_name) (T_is_turn : TF K mg "is_turn" s_is_turn) (T_told_plan : TF K mg "told_plan" s_told_plan) (T_turn_answer : TF K mg "turn_answer" s_turn_answer) (T_check_answer : TF K mg "check_answer" s_check_answer) (T_law_cell_at : TF K mg "_law_cell_at" s_law_cell_at) (T_law_size : TF K mg "_law_size" s_law_size) (T_law_great : TF K mg "_law_great" s_law_great) (T_law_divisor : TF K mg "_law_divisor" s_law_divisor) (T_law_awake : TF K mg "_law_awake" s_law_awake) (T_law_read : TF K mg "_law_read" s_law_read) (T_law_met : TF K mg "_law_met" s_law_met) (T_law : TF K mg "law" s_law) (m_len : mg "len" = none) (m_min : mg "min" = none) (m_max : mg "max" = none) (m_all : mg "all" = none) (m_zip : mg "zip" = none) (m_int : mg "int" = none) (m_str : mg "str" = none) (m_list : mg "list" = none) (m_range : mg "range" = none) (m_reversed : mg "reversed" = none) (m_isinstance : mg "isinstance" = none) (m_enumerate : mg "enumerate" = none) (m_set : mg "set" = none) (m_sorted : mg "sorted" = none) (D_FORMS : CDT P w K mg "FORMS" FORMSd) (c_MOST_FIGURES : CI mg "MOST_FIGURES" 100) (c_MOST_LETTERS : CI mg "MOST_LETTERS" 8) (c_PRIME_FIGURES : CI mg "PRIME_FIGURES" 12) (c_GRID_FIGURES : CI mg "GRID_FIGURES" 50) (c_FIGURES : CS mg "FIGURES" "0123456789") (c_LETTERS : CS mg "LETTERS" "abcdefghijklmnopqrstuvwxyz") (C_ALL_TURNS : CT K mg "ALL_TURNS" [1,0]) {c_MeetError c_NoPaper c_NoName c_NoRow : Addr} (O_MeetError : OX K mg "MeetError" c_MeetError VE) (O_NoPaper : OX K mg "NoPaper" c_NoPaper (.ref c_MeetError :: VE)) (O_NoName : OX K mg "NoName" c_NoName (.ref c_MeetError :: VE)) (O_NoRow : OX K mg "NoRow" c_NoRow (.ref c_MeetError :: VE)) (ndE : [c_MeetError, c_NoPaper, c_NoName, c_NoRow].Nodup) {C_Desk : Addr} (cl_Desk : Cls K C_Desk) (na_Desk_plans : NoAttr K C_Desk "plans") (mk_Desk : PySem.W.makesIn K C_Desk = true) (kc_Desk : PySem.W.keepIn K (.ref C_Desk) = true) (mg_Desk : mg "Desk" = some (.ref C_Desk)) (T_Desk___init__ : TM K C_Desk "__init__" "Desk.__init__" s_Desk___init__) (T_Desk_told : TM K C_Desk "told" "Desk.told" s_Desk_told) (T_Desk_plan_by : TM K C_Desk "plan_by" "Desk.plan_by" s_Desk_plan_by) {C_PaperReader : Addr} (cl_PaperReader : Cls K C_PaperReader) (na_PaperReader_text : NoAttr K C_PaperReader "text") (na_PaperReader_place : NoAttr K C_PaperReader "place") (mk_PaperReader : PySem.W.makesIn K C_PaperReader = true) (kc_PaperReader : PySem.W.keepIn K (.ref C_PaperReader) = true) (mg_PaperReader : mg "PaperReader" = some (.ref C_PaperReader)) (T_PaperReader___init__ : TM K C_PaperReader "__init__" "PaperReader.__init__" s_PaperReader___init__) (T_PaperReader_passes : TM K C_PaperReader "passes" "PaperReader.passes" s_PaperReader_passes) (T_PaperReader_next_number : TM K C_PaperReader "next_number" "PaperReader.next_number" s_PaperReader_next_number) (T_PaperReader_next_paper : TM K C_PaperReader "next_paper" "PaperReader.next_paper" s_PaperReader_next_paper) :
    ∃ fd : FuncData, (∀ (s : Shared) (v : Value), BindsTo s fd ⟨[v], []⟩ [("script", v)]) ∧ ∀ base : Heap, K.In base → base.Ns mainGlobals mg → FnOk P w K mg base CX0 12 fa fd ["script"] (sp_law K) :=
  has_law KX G hfa fun _ _ _ =>
    have X : DkTx K C_Desk := ⟨cl_Desk, na_Desk_plans⟩
    have XR : RdTx K C_PaperReader := ⟨cl_PaperReader, na_PaperReader_text, na_PaperReader_place⟩
    have ca := h_law_cell_at T_law_cell_at m_len
    have fgM := h_is_figuresM T_is_figures m_len m_all c_FIGURES
    have rn := h_read_numberQ T_read_number m_int c_MOST_FIGURES fgM
    have ps := h_passes XR T_PaperReader_passes m_len
    have nn := h_next_number XR T_PaperReader_next_number m_len c_FIGURES rn
    have rp := h_rpap1 XR cl_PaperReader mk_PaperReader kc_PaperReader mg_PaperReader T_read_paper m_len (h_rinit XR T_PaperReader___init__) (h_npap1 cl_PaperReader T_PaperReader_next_paper ps nn)
    have dv := h_divisor T_divisor
    have sh := h_shifts T_shifts (h_shifts_of_two T_shifts_of_two m_min dv)
    have lm := h_lets_meet T_lets_meet sh (h_lets_by T_lets_by C_ALL_TURNS (h_right_for T_right_for m_len m_enumerate (h_lies_in T_lies_in dv) (h_part_of_part T_part_of_part) 1))
    have pr := h_pair_round T_pair_round (h_pair_of T_pair_of m_len) (h_least_round T_least_round dv)
    have pn := h_paper_names T_paper_names 1
    have pw := h_paper_wait T_paper_wait m_max m_set m_sorted lm pn pr
    have d := h_divided_up T_divided_up
    have nt := h_next_together T_next_together m_min (h_together T_together (h_awake T_awake)) (h_shifted T_shifted) (h_next_begin T_next_begin (h_first_hit T_first_hit d (h_climbed T_climbed m_reversed d)))
    have wo := h_words_of T_words_of m_len m_zip m_isinstance m_str O_NoRow D_FORMS (h_fits T_fits c_PRIME_FIGURES c_GRID_FIGURES fgM (h_is_name T_is_name m_len m_all c_LETTERS c_MOST_LETTERS) (h_is_turn T_is_turn c_MOST_FIGURES fgM))
    have tdX := h_told92 X cl_Desk T_Desk_told m_int wo (h_told_grid T_told_plan m_int (h_grid_plan T_grid_plan)) (h_plan_by X T_Desk_plan_by O_NoName) (h_turn_answer T_turn_answer m_str) nt rp (h_check_answer T_check_answer O_NoPaper (has_toX (pw.mono (by decide))))
    have td := hasMX_quiet tdX fun _ _ _ _ q => q
    have lr := h_law_read T_law_read m_len m_int
    have la := h_law_awake T_law_awake
    h_law cl_Desk mk_Desk kc_Desk mg_Desk T_law m_len m_min m_max m_str m_isinstance m_range (h_dinit X T_Desk___init__) td ca (h_law_size T_law_size) (h_law_great T_law_great) (h_law_divisor T_law_divisor) (h_law_met cl_Desk T_law_met m_str m_isinstance lr la td) lr (h_shown1 T_shown_paper) (h_grid_paper T_grid_paper)
end
end SMk92
local macro_rules | `(tactic| walk_at "cdt_one") => `(tactic| (refine' L2.CPairs.cons ?kk ?hh ?vv ?ll ?cc ?dd ?zz ?ww ?rr; (case kk => rfl); (case vv => rfl); (case ll => k_is); (case cc => rfl); (case dd => rfl); (case zz => decide); (case hh => rfl); (case ww => repeat (first | exact Paired.nil | refine Paired.cons ⟨_, rfl⟩ ?_))))
local macro_rules | `(tactic| walk_at "cdt_all") => `(tactic| (walk_at "cdt_one"; walk_at "cdt_one"; walk_at "cdt_one"; walk_at "cdt_one"; walk_at "cdt_one"; walk_at "cdt_one"; walk_at "cdt_one"; walk_at "cdt_one"; exact L2.CPairs.nil))
namespace PySem.W.Fast
theorem tw10002615697295544920 : True := trivial
theorem tw10018115344508757764 : True := trivial
theorem tw10031809318298999423 : True := trivial
theorem tw10110053402813354573 : True := trivial
theorem tw10152821555196248544 : True := trivial
theorem tw10175139065878681422 : True := trivial
theorem tw10191241642763794877 : True := trivial
theorem tw10200398873545184681 : True := trivial
theorem tw10215430290046244028 : True := trivial
theorem tw10220816708495010269 : True := trivial
theorem tw10255444236946577410 : True := trivial
theorem tw10257785273224797840 : True := trivial
theorem tw10280424569770822623 : True := trivial
theorem tw1029672829431608286 : True := trivial
theorem tw10337945932578343141 : True := trivial
theorem tw10392778763020273237 : True := trivial
theorem tw10394528627199087237 : True := trivial
theorem tw10407233499558514555 : True := trivial
theorem tw10414836481789639621 : True := trivial
theorem tw10419032275923394250 : True := trivial
theorem tw10431345306473172202 : True := trivial
theorem tw10457222445458468115 : True := trivial
theorem tw1046493795464484931 : True := trivial
theorem tw10480653634073928743 : True := trivial
theorem tw10495260053121412547 : True := trivial
theorem tw10550353129977371943 : True := trivial
theorem tw1058134907552450782 : True := trivial
theorem tw10584590774094577360 : True := trivial
theorem tw10610160618665480228 : True := trivial
theorem tw10641740301535618583 : True := trivial
theorem tw1065605368681380043 : True := trivial
theorem tw10657197889781412354 : True := trivial
theorem tw10671583199702244820 : True := trivial
theorem tw10688639794552591683 : True := trivial
theorem tw10714750081280455756 : True := trivial
theorem tw1080463422924763990 : True := trivial
theorem tw10821571664139682133 : True := trivial
theorem tw10876311517466563973 : True := trivial
theorem tw10892233961769446384 : True := trivial
theorem tw10909313073286945031 : True := trivial
theorem tw10930946455295376454 : True := trivial
theorem tw10937517788049774853 : True := trivial
theorem tw10961393521175671781 : True := trivial
theorem tw10967092203314684478 : True := trivial
theorem tw10982237024083675207 : True := trivial
theorem tw10994578849974582216 : True := trivial
theorem tw11039778287673096811 : True := trivial
theorem tw11051655311105083498 : True := trivial
theorem tw11063279026089110673 : True := trivial
theorem tw11089431360286639475 : True := trivial
theorem tw11098844553413221089 : True := trivial
theorem tw11128748620180634032 : True := trivial
theorem tw11157960374765895569 : True := trivial
theorem tw11168471238375236594 : True := trivial
theorem tw11189781914785622276 : True := trivial
theorem tw11207447564765916343 : True := trivial
theorem tw11235772095771541835 : True := trivial
theorem tw11298265433609393909 : True := trivial
theorem tw11305436445462875057 : True := trivial
theorem tw11326058412855890054 : True := trivial
theorem tw11333512807234959185 : True := trivial
theorem tw113405630980834830 : True := trivial
theorem tw11347985504950277525 : True := trivial
theorem tw11352328434272260482 : True := trivial
theorem tw11366098081521805786 : True := trivial
theorem tw11401603814021309326 : True := trivial
theorem tw11406812724218736547 : True := trivial
theorem tw11422715934480844860 : True := trivial
theorem tw11425794693263103071 : True := trivial
theorem tw11451086167293527426 : True := trivial
theorem tw11487783816815194113 : True := trivial
theorem tw11491256446895101441 : True := trivial
theorem tw11516213889884930769 : True := trivial
theorem tw11541941144708416676 : True := trivial
theorem tw11542837590325318497 : True := trivial
theorem tw11562853468302284029 : True := trivial
theorem tw11570569342287933746 : True := trivial
theorem tw11616717532440407588 : True := trivial
theorem tw1164949406182133438 : True := trivial
theorem tw11678544108407427377 : True := trivial
theorem tw11764769031117651205 : True := trivial
theorem tw11785923139376058334 : True := trivial
theorem tw11823862725156115045 : True := trivial
theorem tw11850131155042790507 : True := trivial
theorem tw11901031607846421290 : True := trivial
theorem tw11906946024205396237 : True := trivial
theorem tw119587696194136044 : True := trivial
theorem tw11960898776858721835 : True := trivial
theorem tw11985278775068005670 : True := trivial
theorem tw11994501595296093970 : True := trivial
theorem tw12012556233081562351 : True := trivial
theorem tw12056022508047213882 : True := trivial
theorem tw12092581376779862589 : True := trivial
theorem tw12114661436446393753 : True := trivial
theorem tw12119110049174049796 : True := trivial
theorem tw12121029374687682131 : True := trivial
theorem tw12129877700622483399 : True := trivial
theorem tw12132523490006477797 : True := trivial
theorem tw12133104118925387421 : True := trivial
theorem tw12134493298333346402 : True := trivial
theorem tw12176241363555760765 : True := trivial
theorem tw12199417009297498387 : True := trivial
theorem tw12199807817270698224 : True := trivial
theorem tw12209992656137454132 : True := trivial
theorem tw12215957553358924452 : True := trivial
theorem tw12217487605839682950 : True := trivial
theorem tw1222896367931974680 : True := trivial
theorem tw12253317798724583904 : True := trivial
theorem tw12264165201663388952 : True := trivial
theorem tw12273197410729139075 : True := trivial
theorem tw12294805621267979027 : True := trivial
theorem tw12301503798658748570 : True := trivial
theorem tw12312076235990475943 : True := trivial
theorem tw12347762769995344754 : True := trivial
theorem tw1241283050513159596 : True := trivial
theorem tw12426185403144855846 : True := trivial
theorem tw12432775476049502122 : True := trivial
theorem tw12455348570818874676 : True := trivial
theorem tw12468450654595381743 : True := trivial
theorem tw12469334983482164963 : True := trivial
theorem tw12476107902460621115 : True := trivial
theorem tw12521142487453540784 : True := trivial
theorem tw12538958649199300211 : True := trivial
theorem tw12581489550223002183 : True := trivial
theorem tw12599983582034731707 : True := trivial
theorem tw12635753209057235416 : True := trivial
theorem tw12648832390628407309 : True := trivial
theorem tw12672476001977314871 : True := trivial
theorem tw12675019424231068763 : True := trivial
theorem tw12683529454041974769 : True := trivial
theorem tw12687366656989425266 : True := trivial
theorem tw1273699736517149728 : True := trivial
theorem tw12748529325746144132 : True := trivial
theorem tw12759404510898260132 : True := trivial
theorem tw12784554414175879913 : True := trivial
theorem tw12819614460481742100 : True := trivial
theorem tw12832407389743035420 : True := trivial
theorem tw12948065228260419302 : True := trivial
theorem tw12951332605225275408 : True := trivial
theorem tw12958823594277752057 : True := trivial
theorem tw12973640551922753497 : True := trivial
theorem tw12982497086206516508 : True := trivial
theorem tw12989919089556957375 : True := trivial
theorem tw13046524210122659519 : True := trivial
theorem tw13080807421741742614 : True := trivial
theorem tw13080942922397435115 : True := trivial
theorem tw13123069315579124469 : True := trivial
theorem tw1312444284908375402 : True := trivial
theorem tw13127105615763372228 : True := trivial
theorem tw13159002330721966033 : True := trivial
theorem tw13180890013003559708 : True := trivial
theorem tw1318624437259929632 : True := trivial
theorem tw13213698568359908173 : True := trivial
theorem tw13258156252449112344 : True := trivial
theorem tw13261962835195671864 : True := trivial
theorem tw13296968720249070940 : True := trivial
theorem tw13323003477205883856 : True := trivial
theorem tw13338188177090437478 : True := trivial
theorem tw13372210311338883389 : True := trivial
theorem tw13453241847234668290 : True := trivial
theorem tw13456173548755712678 : True := trivial
theorem tw13496581800812370957 : True := trivial
theorem tw13543441954997055340 : True := trivial
theorem tw13560735936377096290 : True := trivial
theorem tw13563520287032127721 : True := trivial
theorem tw13601449259189909868 : True := trivial
theorem tw13604414729684449571 : True := trivial
theorem tw13626127299207404486 : True := trivial
theorem tw13638185135693569098 : True := trivial
theorem tw13683482833193877584 : True := trivial
theorem tw13719754362371013998 : True := trivial
theorem tw13745610783703945017 : True := trivial
theorem tw13746843408366969809 : True := trivial
theorem tw13787717260085064510 : True := trivial
theorem tw13792653545101030251 : True := trivial
theorem tw13815123077664039713 : True := trivial
theorem tw1382334903285181259 : True := trivial
theorem tw13855431137657132324 : True := trivial
theorem tw13857421236179396595 : True := trivial
theorem tw13877486269882384796 : True := trivial
theorem tw13922851025019198618 : True := trivial
theorem tw13951733441654211968 : True := trivial
theorem tw14026786091261007157 : True := trivial
theorem tw14047599642127216005 : True := trivial
theorem tw14124638072613209884 : True := trivial
theorem tw14216693495254244483 : True := trivial
theorem tw14251437984647675788 : True := trivial
theorem tw14253297050737769811 : True := trivial
theorem tw14300546322229450182 : True := trivial
theorem tw14324899645208305767 : True := trivial
theorem tw14335325527359278974 : True := trivial
theorem tw14403908071302478730 : True := trivial
theorem tw14416703472110595663 : True := trivial
theorem tw14465496847543639787 : True := trivial
theorem tw14480389546435221034 : True := trivial
theorem tw14480870522151998629 : True := trivial
theorem tw14490896263524750464 : True := trivial
theorem tw14492535715427234355 : True := trivial
theorem tw14526729729139999878 : True := trivial
theorem tw14565762777016760389 : True := trivial
theorem tw14688556107569491283 : True := trivial
theorem tw14696909649407561881 : True := trivial
theorem tw14703894034396527085 : True := trivial
theorem tw1470473514620662826 : True := trivial
theorem tw14713181232420085511 : True := trivial
theorem tw14753408684165792455 : True := trivial
theorem tw14769801277920790368 : True := trivial
theorem tw14812169930368589129 : True := trivial
theorem tw14852748870433003444 : True := trivial
theorem tw14869131764049393432 : True := trivial
theorem tw14875065442247817365 : True := trivial
theorem tw14885872227694933913 : True := trivial
theorem tw14913956817772804411 : True := trivial
theorem tw14930329760396715763 : True := trivial
theorem tw14955077216467409691 : True := trivial
theorem tw14978080671404513198 : True := trivial
theorem tw14995920149938298553 : True := trivial
theorem tw15134854977669604623 : True := trivial
theorem tw15169557154780404494 : True := trivial
theorem tw15174165837197225593 : True := trivial
theorem tw15182178764284592111 : True := trivial
theorem tw15217432593308678010 : True := trivial
theorem tw15222781212916734959 : True := trivial
theorem tw1524498747261402800 : True := trivial
theorem tw15246050258085923525 : True := trivial
theorem tw15281165702475117735 : True := trivial
theorem tw15313506090139660471 : True := trivial
theorem tw15323802435134963335 : True := trivial
theorem tw15334732008237003296 : True := trivial
theorem tw15343009600926230476 : True := trivial
theorem tw15354864418677060022 : True := trivial
theorem tw15398417389616477714 : True := trivial
theorem tw15400062288151714504 : True := trivial
theorem tw15470292958884204652 : True := trivial
theorem tw15526622168251288222 : True := trivial
theorem tw15540899164217442123 : True := trivial
theorem tw15558377127896352152 : True := trivial
theorem tw1556664334564572583 : True := trivial
theorem tw15577898971173697344 : True := trivial
theorem tw15579997079850944897 : True := trivial
theorem tw15623342361623691415 : True := trivial
theorem tw15637725090871287904 : True := trivial
theorem tw15666587797212324611 : True := trivial
theorem tw15680057151506196736 : True := trivial
theorem tw15707796322526694358 : True := trivial
theorem tw15736693256418372119 : True := trivial
theorem tw15795493011252213272 : True := trivial
theorem tw15800811237202319319 : True := trivial
theorem tw15808117453405761082 : True := trivial
theorem tw15821898123332424148 : True := trivial
theorem tw15865013204528611373 : True := trivial
theorem tw15896258928597099658 : True := trivial
theorem tw15902244317209161617 : True := trivial
theorem tw15936655403443205218 : True := trivial
theorem tw15966263208364530165 : True := trivial
theorem tw1596674745167707333 : True := trivial
theorem tw15979018136124189331 : True := trivial
theorem tw16011940962500596409 : True := trivial
theorem tw16055277147076844731 : True := trivial
theorem tw16080719158317758791 : True := trivial
theorem tw16130041750689422178 : True := trivial
theorem tw16138136285051638837 : True := trivial
theorem tw16169462617348718341 : True := trivial
theorem tw16231276786449594408 : True := trivial
theorem tw16232025528370002403 : True := trivial
theorem tw16256740050132842908 : True := trivial
theorem tw16258366602148129906 : True := trivial
theorem tw162717401001757185 : True := trivial
theorem tw16282206189068786860 : True := trivial
theorem tw16299683242151267383 : True := trivial
theorem tw16313059255911064636 : True := trivial
theorem tw16334065150557006277 : True := trivial
theorem tw16336343122088773805 : True := trivial
theorem tw16400777855944539845 : True := trivial
theorem tw16408063814272052947 : True := trivial
theorem tw16413970176297470344 : True := trivial
theorem tw16433884502917485442 : True := trivial
theorem tw16438187964473375602 : True := trivial
theorem tw16452816855867891759 : True := trivial
theorem tw16455521739614950684 : True := trivial
theorem tw16502482985920234977 : True := trivial
theorem tw16514393294542579357 : True := trivial
theorem tw16519028947320299280 : True := trivial
theorem tw16539706521559428342 : True := trivial
theorem tw16590725166522724750 : True := trivial
theorem tw16625345325267174093 : True := trivial
theorem tw16733830179507343301 : True := trivial
theorem tw1674683569282351928 : True := trivial
theorem tw16757732361312965918 : True := trivial
theorem tw1677759451751093250 : True := trivial
theorem tw16782987806096864051 : True := trivial
theorem tw16816981285317700160 : True := trivial
theorem tw16818803754512804579 : True := trivial
theorem tw16858751186070466825 : True := trivial
theorem tw16865988752472991029 : True := trivial
theorem tw16875622493527300098 : True := trivial
theorem tw1694838799993851950 : True := trivial
theorem tw16971444374727242979 : True := trivial
theorem tw16977930291952882516 : True := trivial
theorem tw16982631476189560981 : True := trivial
theorem tw17012162977552606719 : True := trivial
theorem tw17153734455513932576 : True := trivial
theorem tw17156534701089871389 : True := trivial
theorem tw17160023100355890033 : True := trivial
theorem tw17164835978229760626 : True := trivial
theorem tw1718857731697271450 : True := trivial
theorem tw17222655629215254011 : True := trivial
theorem tw17232428338530747751 : True := trivial
theorem tw17238623737465283078 : True := trivial
theorem tw17241106543490560922 : True := trivial
theorem tw17286712849128680362 : True := trivial
theorem tw17346316864999612206 : True := trivial
theorem tw1740611730674919012 : True := trivial
theorem tw17421188241093662514 : True := trivial
theorem tw17436158566267974423 : True := trivial
theorem tw17492656955439817723 : True := trivial
theorem tw17540789644313758394 : True := trivial
theorem tw17580359565658108894 : True := trivial
theorem tw17595754236238236670 : True := trivial
theorem tw17599238182027428842 : True := trivial
theorem tw17626006775996349263 : True := trivial
theorem tw17673798600790201040 : True := trivial
theorem tw17709189992353813834 : True := trivial
theorem tw17724111046630645943 : True := trivial
theorem tw17726985914815887147 : True := trivial
theorem tw17731576101762428822 : True := trivial
theorem tw17808287779570045256 : True := trivial
theorem tw17813623085940261755 : True := trivial
theorem tw17825611511861807369 : True := trivial
theorem tw17827665679394551741 : True := trivial
theorem tw1786548558598175016 : True := trivial
theorem tw17905340328062637768 : True := trivial
theorem tw1791407739352419661 : True := trivial
theorem tw17930265358156688550 : True := trivial
theorem tw17934838729962535656 : True := trivial
theorem tw1793783221827157944 : True := trivial
theorem tw18013606302839148773 : True := trivial
theorem tw18015913066064829814 : True := trivial
theorem tw18067593186690037680 : True := trivial
theorem tw18072831603080310780 : True := trivial
theorem tw18103385053683884583 : True := trivial
theorem tw18125444485713613496 : True := trivial
theorem tw18135742328772347181 : True := trivial
theorem tw18146165639919637228 : True := trivial
theorem tw18173346594065820299 : True := trivial
theorem tw18174332424934381078 : True := trivial
theorem tw18208760197644481041 : True := trivial
theorem tw18214299441256154911 : True := trivial
theorem tw18223916186621729242 : True := trivial
theorem tw18240636580126608712 : True := trivial
theorem tw18321190308504555641 : True := trivial
theorem tw18384460430319231862 : True := trivial
theorem tw18393676066099330979 : True := trivial
theorem tw191576698697831231 : True := trivial
theorem tw1937863378022313552 : True := trivial
theorem tw1938570893028957865 : True := trivial
theorem tw1943341639678177275 : True := trivial
theorem tw194429049345706899 : True := trivial
theorem tw1981873738996759493 : True := trivial
theorem tw198233086102016537 : True := trivial
theorem tw2017073667608365719 : True := trivial
theorem tw2022197004802349487 : True := trivial
theorem tw203044382571053976 : True := trivial
theorem tw2040852901769517203 : True := trivial
theorem tw2043066816280359583 : True := trivial
theorem tw2044919426204668889 : True := trivial
theorem tw2079999377387594581 : True := trivial
theorem tw2080333794359987776 : True := trivial
theorem tw2100758214242835210 : True := trivial
theorem tw2143316232693458987 : True := trivial
theorem tw2161099768721378661 : True := trivial
theorem tw220535204103211731 : True := trivial
theorem tw221029446181586125 : True := trivial
theorem tw2256225124533465429 : True := trivial
theorem tw2309550872518306065 : True := trivial
theorem tw2328968741500367709 : True := trivial
theorem tw239152468196304617 : True := trivial
theorem tw2407299415523699954 : True := trivial
theorem tw2428686722242293491 : True := trivial
theorem tw246202789647910612 : True := trivial
theorem tw2471938633058694774 : True := trivial
theorem tw2484996723711374082 : True := trivial
theorem tw2491807153519535512 : True := trivial
theorem tw2507687404517821010 : True := trivial
theorem tw2509733654428253165 : True := trivial
theorem tw2512956869237698594 : True := trivial
theorem tw2516144018776860397 : True := trivial
theorem tw2526643564262402953 : True := trivial
theorem tw260548196565178601 : True := trivial
theorem tw2609039075415568395 : True := trivial
theorem tw2632377510235118593 : True := trivial
theorem tw267901451246368041 : True := trivial
theorem tw2680034459956563793 : True := trivial
theorem tw2695995680800238829 : True := trivial
theorem tw2729107044315526038 : True := trivial
theorem tw2817495835513215486 : True := trivial
theorem tw2825194433120769392 : True := trivial
theorem tw2860364228193361590 : True := trivial
theorem tw286269388276252067 : True := trivial
theorem tw2876314479660874396 : True := trivial
theorem tw2920112713778522193 : True := trivial
theorem tw2931595159500049054 : True := trivial
theorem tw2931907535549988068 : True := trivial
theorem tw2955109235885096063 : True := trivial
theorem tw2957354102386635723 : True := trivial
theorem tw2967079059547272357 : True := trivial
theorem tw3025076479687729554 : True := trivial
theorem tw3033766706613745887 : True := trivial
theorem tw3052377490691710787 : True := trivial
theorem tw3066835096234036431 : True := trivial
theorem tw3075499063206037467 : True := trivial
theorem tw3076338773283789925 : True := trivial
theorem tw309932100858464057 : True := trivial
theorem tw3152755652508690397 : True := trivial
theorem tw3167877613110557293 : True := trivial
theorem tw3174840316675327650 : True := trivial
theorem tw3191715674835286499 : True := trivial
theorem tw3197073837918386914 : True := trivial
theorem tw3250895894271920008 : True := trivial
theorem tw3318184135624331716 : True := trivial
theorem tw3340764370203377701 : True := trivial
theorem tw3348382033868704102 : True := trivial
theorem tw341296947361231348 : True := trivial
theorem tw3432137903914171050 : True := trivial
theorem tw3438300916889922009 : True := trivial
theorem tw3441106387904576686 : True := trivial
theorem tw3459801087947096092 : True := trivial
theorem tw3468251791272167470 : True := trivial
theorem tw3500581821046706425 : True := trivial
theorem tw3511601751542071424 : True := trivial
theorem tw3513018647028909326 : True := trivial
theorem tw3527486044237511620 : True := trivial
theorem tw3539329545474258917 : True := trivial
theorem tw3556280053787278033 : True := trivial
theorem tw3564835698067061267 : True := trivial
theorem tw3573603307541576253 : True := trivial
theorem tw3595823206520699832 : True := trivial
theorem tw362456916893535623 : True := trivial
theorem tw363440250532943459 : True := trivial
theorem tw3641201291927133844 : True := trivial
theorem tw3645453034231088583 : True := trivial
theorem tw3719565422725902414 : True := trivial
theorem tw3741283635476527038 : True := trivial
theorem tw3742361716823216486 : True := trivial
theorem tw3766783815792977923 : True := trivial
theorem tw3831329243189130478 : True := trivial
theorem tw3834173777879660941 : True := trivial
theorem tw3834666029197918702 : True := trivial
theorem tw3868084449481646669 : True := trivial
theorem tw3872871961765865375 : True := trivial
theorem tw3906324414056174164 : True := trivial
theorem tw392481765258857504 : True := trivial
theorem tw393061875104377 : True := trivial
theorem tw3967647654249214164 : True := trivial
theorem tw4007660698124751804 : True := trivial
theorem tw4028577878253814605 : True := trivial
theorem tw4030260918260174922 : True := trivial
theorem tw4039294585623787911 : True := trivial
theorem tw4048489771447654504 : True := trivial
theorem tw4053158300848684548 : True := trivial
theorem tw406027856243405523 : True := trivial
theorem tw4128843997731521389 : True := trivial
theorem tw4130522679364198678 : True := trivial
theorem tw4147248818244322215 : True := trivial
theorem tw4149191332925721427 : True := trivial
theorem tw4149645712133677345 : True := trivial
theorem tw4169283421438493700 : True := trivial
theorem tw420510678932461900 : True := trivial
theorem tw421458801667716428 : True := trivial
theorem tw4241582914408410008 : True := trivial
theorem tw426880725921241998 : True := trivial
theorem tw4300126851549338234 : True := trivial
theorem tw4323672284766694923 : True := trivial
theorem tw435120173564287822 : True := trivial
theorem tw4362080371476213888 : True := trivial
theorem tw4368869367898175051 : True := trivial
theorem tw4380473803075968386 : True := trivial
theorem tw4394132722979991955 : True := trivial
theorem tw4397269226576932636 : True := trivial
theorem tw4422210428808202602 : True := trivial
theorem tw4446388677296410067 : True := trivial
theorem tw4459598120051894462 : True := trivial
theorem tw4499861319979402676 : True := trivial
theorem tw4667788369858124240 : True := trivial
theorem tw4667817897952798306 : True := trivial
theorem tw4685638125915446574 : True := trivial
theorem tw4732446209650380017 : True := trivial
theorem tw4762260520732105359 : True := trivial
theorem tw4912816230983608580 : True := trivial
theorem tw4943615185985505745 : True := trivial
theorem tw497192372051100632 : True := trivial
theorem tw4990249802686139872 : True := trivial
theorem tw5015175181213169392 : True := trivial
theorem tw5029952719934732202 : True := trivial
theorem tw5101502867346932582 : True := trivial
theorem tw5108041096196709170 : True := trivial
theorem tw5194967038882423344 : True := trivial
theorem tw5207179686288847408 : True := trivial
theorem tw5230627894668731904 : True := trivial
theorem tw5241837397526551057 : True := trivial
theorem tw5279428907902417650 : True := trivial
theorem tw5328258202743164573 : True := trivial
theorem tw5341716400928043129 : True := trivial
theorem tw5343734157583305533 : True := trivial
theorem tw5344038552644330105 : True := trivial
theorem tw5364820683806127119 : True := trivial
theorem tw5413704940852208326 : True := trivial
theorem tw5483741570404022205 : True := trivial
theorem tw5485902798555986246 : True := trivial
theorem tw5512039377634282139 : True := trivial
theorem tw5522624399381687800 : True := trivial
theorem tw5554683477619993488 : True := trivial
theorem tw5629462408687433760 : True := trivial
theorem tw563498783419670245 : True := trivial
theorem tw5636648449735462020 : True := trivial
theorem tw564008371068383877 : True := trivial
theorem tw5665376991208638502 : True := trivial
theorem tw5683218064503304293 : True := trivial
theorem tw5742303536536224920 : True := trivial
theorem tw5747998330770454713 : True := trivial
theorem tw5751741777255735162 : True := trivial
theorem tw5769357436252426209 : True := trivial
theorem tw5775684629460224954 : True := trivial
theorem tw5830769288170961300 : True := trivial
theorem tw5837253984044622278 : True := trivial
theorem tw5843695491455991921 : True := trivial
theorem tw5888978505050162142 : True := trivial
theorem tw5974168801593153346 : True := trivial
theorem tw5976958259950544743 : True := trivial
theorem tw6014964370137949139 : True := trivial
theorem tw6083778081588806139 : True := trivial
theorem tw6093510450767232436 : True := trivial
theorem tw6123500626401097824 : True := trivial
theorem tw6179741461352012587 : True := trivial
theorem tw6189460565141265565 : True := trivial
theorem tw6253762647212016680 : True := trivial
theorem tw6295619925954455586 : True := trivial
theorem tw6298409315764987463 : True := trivial
theorem tw6304430605088163788 : True := trivial
theorem tw631649032636101872 : True := trivial
theorem tw6371237169383048560 : True := trivial
theorem tw640796217918681028 : True := trivial
theorem tw6433166785799873767 : True := trivial
theorem tw6546579121909703986 : True := trivial
theorem tw6580387953870613679 : True := trivial
theorem tw6586891824894687524 : True := trivial
theorem tw6609104887593691001 : True := trivial
theorem tw6636928306236484766 : True := trivial
theorem tw670571775899972985 : True := trivial
theorem tw6710514070663613238 : True := trivial
theorem tw6721284814831676878 : True := trivial
theorem tw6737916867151350399 : True := trivial
theorem tw6774383716322527492 : True := trivial
theorem tw677660072912309921 : True := trivial
theorem tw6808328134797390632 : True := trivial
theorem tw6816304420812069601 : True := trivial
theorem tw6818792406153723466 : True := trivial
theorem tw6833078939311739449 : True := trivial
theorem tw6866171928712845761 : True := trivial
theorem tw6867913470947040799 : True := trivial
theorem tw6908701958052908859 : True := trivial
theorem tw700820957366072012 : True := trivial
theorem tw7029448259916760357 : True := trivial
theorem tw7067759348055433296 : True := trivial
theorem tw7075149596503364661 : True := trivial
theorem tw70868834696641897 : True := trivial
theorem tw7118703983658450366 : True := trivial
theorem tw7134058179298103523 : True := trivial
theorem tw7149884255669327353 : True := trivial
theorem tw7265172890876025213 : True := trivial
theorem tw7322531350978482224 : True := trivial
theorem tw7429710858821683807 : True := trivial
theorem tw74612231425715836 : True := trivial
theorem tw7492769044855881475 : True := trivial
theorem tw7534517015371120439 : True := trivial
theorem tw7555222145452968254 : True := trivial
theorem tw7556441424882457212 : True := trivial
theorem tw7565333936082474853 : True := trivial
theorem tw7604875545759505655 : True := trivial
theorem tw7615199987014005182 : True := trivial
theorem tw7619889324733078356 : True := trivial
theorem tw7652738847827561497 : True := trivial
theorem tw7665523286343037576 : True := trivial
theorem tw7675010029941173459 : True := trivial
theorem tw7695111490863506373 : True := trivial
theorem tw7728810012376709374 : True := trivial
theorem tw7730616908711483284 : True := trivial
theorem tw7761439520499161263 : True := trivial
theorem tw7770333626865667358 : True := trivial
theorem tw7786559942512816396 : True := trivial
theorem tw7818653032546800540 : True := trivial
theorem tw782227360341608813 : True := trivial
theorem tw7823396917752678498 : True := trivial
theorem tw7837862827148068506 : True := trivial
theorem tw7889114515878138465 : True := trivial
theorem tw7897729218585235878 : True := trivial
theorem tw7935957417437588175 : True := trivial
theorem tw7939617913985742604 : True := trivial
theorem tw7960126247752514060 : True := trivial
theorem tw7967603299035622274 : True := trivial
theorem tw7978497871434496065 : True := trivial
theorem tw7999732535509337453 : True := trivial
theorem tw8001361186117691517 : True := trivial
theorem tw802299807301206141 : True := trivial
theorem tw8026075288783199282 : True := trivial
theorem tw8078186990042471028 : True := trivial
theorem tw8091900448884537006 : True := trivial
theorem tw8093125176425814805 : True := trivial
theorem tw813759033471099531 : True := trivial
theorem tw8139588468660483016 : True := trivial
theorem tw8144972408182781801 : True := trivial
theorem tw81624928273039838 : True := trivial
theorem tw8174700849063963410 : True := trivial
theorem tw8175008359532993513 : True := trivial
theorem tw820044130622263995 : True := trivial
theorem tw8239347635544712992 : True := trivial
theorem tw828635912804701344 : True := trivial
theorem tw8357087390900432025 : True := trivial
theorem tw8359087795910704900 : True := trivial
theorem tw8380865767863103927 : True := trivial
theorem tw8403966739727112535 : True := trivial
theorem tw8460112655005044264 : True := trivial
theorem tw8486552127853508637 : True := trivial
theorem tw8492043114370593398 : True := trivial
theorem tw8494183217217644709 : True := trivial
theorem tw8502779279336747570 : True := trivial
theorem tw8504435630325776091 : True := trivial
theorem tw8513727367861722643 : True := trivial
theorem tw8526415481527949365 : True := trivial
theorem tw8532522922944552037 : True := trivial
theorem tw8548691688092989969 : True := trivial
theorem tw8573031539687080528 : True := trivial
theorem tw8573335246990487670 : True := trivial
theorem tw8659986489820177493 : True := trivial
theorem tw8687903862453302357 : True := trivial
theorem tw8695966065774032996 : True := trivial
theorem tw8753250860494938543 : True := trivial
theorem tw877837509668316942 : True := trivial
theorem tw8809726175453163709 : True := trivial
theorem tw8811484963081842273 : True := trivial
theorem tw8833647676853515842 : True := trivial
theorem tw8889642960916166663 : True := trivial
theorem tw8905487991969946429 : True := trivial
theorem tw8937824287931543563 : True := trivial
theorem tw8952076110303265804 : True := trivial
theorem tw8965046339145949712 : True := trivial
theorem tw8994312416517501383 : True := trivial
theorem tw9020932548469614395 : True := trivial
theorem tw9038206021579900527 : True := trivial
theorem tw9080392471306832437 : True := trivial
theorem tw9088398086539741321 : True := trivial
theorem tw9091373464376718704 : True := trivial
theorem tw9095888295665745172 : True := trivial
theorem tw9117770360165392539 : True := trivial
theorem tw9204611561988166065 : True := trivial
theorem tw9227007100014313064 : True := trivial
theorem tw9230251573378421037 : True := trivial
theorem tw9262377877308369119 : True := trivial
theorem tw9270521577571401596 : True := trivial
theorem tw9277909221447034671 : True := trivial
theorem tw9291519468318302835 : True := trivial
theorem tw9307386345374413160 : True := trivial
theorem tw9336198818959323856 : True := trivial
theorem tw9339580645841085789 : True := trivial
theorem tw933983107894792748 : True := trivial
theorem tw9343947668240753955 : True := trivial
theorem tw9359786162627164254 : True := trivial
theorem tw9405082990515535986 : True := trivial
theorem tw9425799765774651600 : True := trivial
theorem tw9429065934181974058 : True := trivial
theorem tw9439726619528735818 : True := trivial
theorem tw9455032941057785534 : True := trivial
theorem tw948613605904092298 : True := trivial
theorem tw9534395717984949723 : True := trivial
theorem tw9543293471859046146 : True := trivial
theorem tw9594370519388022627 : True := trivial
theorem tw959482531688475998 : True := trivial
theorem tw960720514587129760 : True := trivial
theorem tw9666604533615755404 : True := trivial
theorem tw9669724470952110030 : True := trivial
theorem tw9689481688821772288 : True := trivial
theorem tw975348717635128448 : True := trivial
theorem tw9772965384858325934 : True := trivial
theorem tw9788834487000600523 : True := trivial
theorem tw9819418546569468265 : True := trivial
theorem tw9821593271835627388 : True := trivial
theorem tw9826834865969583976 : True := trivial
theorem tw9831587514242769145 : True := trivial
theorem tw9901222296421030573 : True := trivial
theorem tw9921825035849522224 : True := trivial
theorem tw9932290023155884148 : True := trivial
theorem tw9936016455509855926 : True := trivial
theorem tw9942819997773923474 : True := trivial
theorem tw9997674619451069818 : True := trivial
end PySem.W.Fast
set_option maxRecDepth 100000 in
set_option maxHeartbeats 0 in
theorem PySem.Challenge.cw_shiftmeet_k92_whole_grids_of_any_size_holds : PySem.Challenge.rw_shiftmeet_k92_whole_grids_of_any_size.Holds := by
  w_on; o_law; k_head; (case hw => w_witness2)
  k_fill
  refine L2.law_walk (l := PySem.Challenge.rw_shiftmeet_k92_whole_grids_of_any_size) (k := 12) (sp := SMk92.sp_law) rfl rfl ⟨rfl, by decide, by decide⟩ (fun w h Y => PySem.W.kIn_of Y) ?F SMk92.sp_start
  case F =>
    intro w mg fa h KX G hmg
    refine' SMk92.fin KX G hmg (L2.tf_mk KX G ?a0 ?l0 ?c0 ?k0) (L2.tf_mk KX G ?a1 ?l1 ?c1 ?k1) (L2.tf_mk KX G ?a2 ?l2 ?c2 ?k2) (L2.tf_mk KX G ?a3 ?l3 ?c3 ?k3) (L2.tf_mk KX G ?a4 ?l4 ?c4 ?k4) (L2.tf_mk KX G ?a5 ?l5 ?c5 ?k5) (L2.tf_mk KX G ?a6 ?l6 ?c6 ?k6) (L2.tf_mk KX G ?a7 ?l7 ?c7 ?k7) (L2.tf_mk KX G ?a8 ?l8 ?c8 ?k8) (L2.tf_mk KX G ?a9 ?l9 ?c9 ?k9) (L2.tf_mk KX G ?a10 ?l10 ?c10 ?k10) (L2.tf_mk KX G ?a11 ?l11 ?c11 ?k11) (L2.tf_mk KX G ?a12 ?l12 ?c12 ?k12) (L2.tf_mk KX G ?a13 ?l13 ?c13 ?k13) (L2.tf_mk KX G ?a14 ?l14 ?c14 ?k14) (L2.tf_mk KX G ?a15 ?l15 ?c15 ?k15) (L2.tf_mk KX G ?a16 ?l16 ?c16 ?k16) (L2.tf_mk KX G ?a17 ?l17 ?c17 ?k17) (L2.tf_mk KX G ?a18 ?l18 ?c18 ?k18) (L2.tf_mk KX G ?a19 ?l19 ?c19 ?k19) (L2.tf_mk KX G ?a20 ?l20 ?c20 ?k20) (L2.tf_mk KX G ?a21 ?l21 ?c21 ?k21) (L2.tf_mk KX G ?a22 ?l22 ?c22 ?k22) (L2.tf_mk KX G ?a23 ?l23 ?c23 ?k23) (L2.tf_mk KX G ?a24 ?l24 ?c24 ?k24) (L2.tf_mk KX G ?a25 ?l25 ?c25 ?k25) (L2.tf_mk KX G ?a26 ?l26 ?c26 ?k26) (L2.tf_mk KX G ?a27 ?l27 ?c27 ?k27) (L2.tf_mk KX G ?a28 ?l28 ?c28 ?k28) (L2.tf_mk KX G ?a29 ?l29 ?c29 ?k29) (L2.tf_mk KX G ?a30 ?l30 ?c30 ?k30) (L2.tf_mk KX G ?a31 ?l31 ?c31 ?k31) (L2.tf_mk KX G ?a32 ?l32 ?c32 ?k32) (L2.tf_mk KX G ?a33 ?l33 ?c33 ?k33) (L2.tf_mk KX G ?a34 ?l34 ?c34 ?k34) (L2.tf_mk KX G ?a35 ?l35 ?c35 ?k35) (L2.tf_mk KX G ?a36 ?l36 ?c36 ?k36) (L2.tf_mk KX G ?a37 ?l37 ?c37 ?k37) (L2.tf_mk KX G ?a38 ?l38 ?c38 ?k38) (L2.tf_mk KX G ?a39 ?l39 ?c39 ?k39) (L2.tf_mk KX G ?a40 ?l40 ?c40 ?k40) (L2.tf_mk KX G ?a41 ?l41 ?c41 ?k41) (PySem.W.mg_none_of KX G ?z0) (PySem.W.mg_none_of KX G ?z1) (PySem.W.mg_none_of KX G ?z2) (PySem.W.mg_none_of KX G ?z3) (PySem.W.mg_none_of KX G ?z4) (PySem.W.mg_none_of KX G ?z5) (PySem.W.mg_none_of KX G ?z6) (PySem.W.mg_none_of KX G ?z7) (PySem.W.mg_none_of KX G ?z8) (PySem.W.mg_none_of KX G ?z9) (PySem.W.mg_none_of KX G ?z10) (PySem.W.mg_none_of KX G ?z11) (PySem.W.mg_none_of KX G ?z12) (PySem.W.mg_none_of KX G ?z13) (L2.cdt_mk KX G ?de0 ?dl0 ?dm0 ?dx0 ?dd0 ?dc0 ?dn0) (L2.ci_mk KX G ?q1) (L2.ci_mk KX G ?q2) (L2.ci_mk KX G ?q3) (L2.ci_mk KX G ?q4) (L2.cs_mk KX G ?q5) (L2.cs_mk KX G ?q6) (L2.ct_mk KX G ?t7 ?u7 ?v7 ?w7 ?x7 ?y7) (L2.ox_mk KX G ?ea0 ?el0 ?ex0) (L2.ox_mk KX G ?ea1 ?el1 ?ex1) (L2.ox_mk KX G ?ea2 ?el2 ?ex2) (L2.ox_mk KX G ?ea3 ?el3 ?ex3) ?nd ⟨?pg0, ?hd0, ?po0, ?sa0⟩ ?nf0_0 ?mk0 ?kc0 (PySem.W.mg_of KX G ?aC0) (L2.tm_mk ?ma0_0 ?mi0_0 ?ml0_0 ?mc0_0 ?mp0_0) (L2.tm_mk ?ma0_1 ?mi0_1 ?ml0_1 ?mc0_1 ?mp0_1) (L2.tm_mk ?ma0_2 ?mi0_2 ?ml0_2 ?mc0_2 ?mp0_2) ⟨?pg1, ?hd1, ?po1, ?sa1⟩ ?nf1_0 ?nf1_1 ?mk1 ?kc1 (PySem.W.mg_of KX G ?aC1) (L2.tm_mk ?ma1_0 ?mi1_0 ?ml1_0 ?mc1_0 ?mp1_0) (L2.tm_mk ?ma1_1 ?mi1_1 ?ml1_1 ?mc1_1 ?mp1_1) (L2.tm_mk ?ma1_2 ?mi1_2 ?ml1_2 ?mc1_2 ?mp1_2) (L2.tm_mk ?ma1_3 ?mi1_3 ?ml1_3 ?mc1_3 ?mp1_3)
    (case aC1 => k_is)
    (case aC0 => k_is)
    (case a0 => k_is); (case l0 => k_is); (case c0 => k_is); (case k0 => k_is)
    (case a1 => k_is); (case l1 => k_is); (case c1 => k_is); (case k1 => k_is)
    (case a2 => k_is); (case l2 => k_is); (case c2 => k_is); (case k2 => k_is)
    (case a3 => k_is); (case l3 => k_is); (case c3 => k_is); (case k3 => k_is)
    (case a4 => k_is); (case l4 => k_is); (case c4 => k_is); (case k4 => k_is)
    (case a5 => k_is); (case l5 => k_is); (case c5 => k_is); (case k5 => k_is)
    (case a6 => k_is); (case l6 => k_is); (case c6 => k_is); (case k6 => k_is)
    (case a7 => k_is); (case l7 => k_is); (case c7 => k_is); (case k7 => k_is)
    (case a8 => k_is); (case l8 => k_is); (case c8 => k_is); (case k8 => k_is)
    (case a9 => k_is); (case l9 => k_is); (case c9 => k_is); (case k9 => k_is)
    (case a10 => k_is); (case l10 => k_is); (case c10 => k_is); (case k10 => k_is)
    (case a11 => k_is); (case l11 => k_is); (case c11 => k_is); (case k11 => k_is)
    (case a12 => k_is); (case l12 => k_is); (case c12 => k_is); (case k12 => k_is)
    (case a13 => k_is); (case l13 => k_is); (case c13 => k_is); (case k13 => k_is)
    (case a14 => k_is); (case l14 => k_is); (case c14 => k_is); (case k14 => k_is)
    (case a15 => k_is); (case l15 => k_is); (case c15 => k_is); (case k15 => k_is)
    (case a16 => k_is); (case l16 => k_is); (case c16 => k_is); (case k16 => k_is)
    (case a17 => k_is); (case l17 => k_is); (case c17 => k_is); (case k17 => k_is)
    (case a18 => k_is); (case l18 => k_is); (case c18 => k_is); (case k18 => k_is)
    (case a19 => k_is); (case l19 => k_is); (case c19 => k_is); (case k19 => k_is)
    (case a20 => k_is); (case l20 => k_is); (case c20 => k_is); (case k20 => k_is)
    (case a21 => k_is); (case l21 => k_is); (case c21 => k_is); (case k21 => k_is)
    (case a22 => k_is); (case l22 => k_is); (case c22 => k_is); (case k22 => k_is)
    (case a23 => k_is); (case l23 => k_is); (case c23 => k_is); (case k23 => k_is)
    (case a24 => k_is); (case l24 => k_is); (case c24 => k_is); (case k24 => k_is)
    (case a25 => k_is); (case l25 => k_is); (case c25 => k_is); (case k25 => k_is)
    (case a26 => k_is); (case l26 => k_is); (case c26 => k_is); (case k26 => k_is)
    (case a27 => k_is); (case l27 => k_is); (case c27 => k_is); (case k27 => k_is)
    (case a28 => k_is); (case l28 => k_is); (case c28 => k_is); (case k28 => k_is)
    (case a29 => k_is); (case l29 => k_is); (case c29 => k_is); (case k29 => k_is)
    (case a30 => k_is); (case l30 => k_is); (case c30 => k_is); (case k30 => k_is)
    (case a31 => k_is); (case l31 => k_is); (case c31 => k_is); (case k31 => k_is)
    (case a32 => k_is); (case l32 => k_is); (case c32 => k_is); (case k32 => k_is)
    (case a33 => k_is); (case l33 => k_is); (case c33 => k_is); (case k33 => k_is)
    (case a34 => k_is); (case l34 => k_is); (case c34 => k_is); (case k34 => k_is)
    (case a35 => k_is); (case l35 => k_is); (case c35 => k_is); (case k35 => k_is)
    (case a36 => k_is); (case l36 => k_is); (case c36 => k_is); (case k36 => k_is)
    (case a37 => k_is); (case l37 => k_is); (case c37 => k_is); (case k37 => k_is)
    (case a38 => k_is); (case l38 => k_is); (case c38 => k_is); (case k38 => k_is)
    (case a39 => k_is); (case l39 => k_is); (case c39 => k_is); (case k39 => k_is)
    (case a40 => k_is); (case l40 => k_is); (case c40 => k_is); (case k40 => k_is)
    (case a41 => k_is); (case l41 => k_is); (case c41 => k_is); (case k41 => k_is)
    (case z0 => k_is)
    (case z1 => k_is)
    (case z2 => k_is)
    (case z3 => k_is)
    (case z4 => k_is)
    (case z5 => k_is)
    (case z6 => k_is)
    (case z7 => k_is)
    (case z8 => k_is)
    (case z9 => k_is)
    (case z10 => k_is)
    (case z11 => k_is)
    (case z12 => k_is)
    (case z13 => k_is)
    (case de0 => k_is); (case dl0 => k_is); (case dm0 => decide); (case dx0 => exact ⟨rfl, rfl, rfl⟩); (case dd0 => rfl); (case dc0 => walk_at "cdt_all"); (case dn0 => decide +kernel)
    (case q1 => k_is)
    (case q2 => k_is)
    (case q3 => k_is)
    (case q4 => k_is)
    (case q5 => k_is)
    (case q6 => k_is)
    (case t7 => k_is); (case u7 => k_is); (case v7 => rfl); (case w7 => rfl); (case x7 => decide); (case y7 => exact .cons ⟨_, rfl⟩ (.cons ⟨_, rfl⟩ .nil))
    (case ea0 => k_is); (case el0 => k_is); (case ex0 => k_exc)
    (case ea1 => k_is); (case el1 => k_is); (case ex1 => k_exc)
    (case ea2 => k_is); (case el2 => k_is); (case ex2 => k_exc)
    (case ea3 => k_is); (case el3 => k_is); (case ex3 => k_exc)
    (case nd => decide +kernel)
    (case pg0 => k_is); (case hd0 => k_is); (case po0 => k_is); (case sa0 => k_is)
    (case nf0_0 => (unfold L2.NoAttr; k_is))
    (case mk0 => k_is); (case kc0 => k_is)
    (case ma0_0 => k_is); (case mi0_0 => k_is); (case ml0_0 => k_is); (case mc0_0 => k_is); (case mp0_0 => k_is)
    (case ma0_1 => k_is); (case mi0_1 => k_is); (case ml0_1 => k_is); (case mc0_1 => k_is); (case mp0_1 => k_is)
    (case ma0_2 => k_is); (case mi0_2 => k_is); (case ml0_2 => k_is); (case mc0_2 => k_is); (case mp0_2 => k_is)
    (case pg1 => k_is); (case hd1 => k_is); (case po1 => k_is); (case sa1 => k_is)
    (case nf1_0 => (unfold L2.NoAttr; k_is))
    (case nf1_1 => (unfold L2.NoAttr; k_is))
    (case mk1 => k_is); (case kc1 => k_is)
    (case ma1_0 => k_is); (case mi1_0 => k_is); (case ml1_0 => k_is); (case mc1_0 => k_is); (case mp1_0 => k_is)
    (case ma1_1 => k_is); (case mi1_1 => k_is); (case ml1_1 => k_is); (case mc1_1 => k_is); (case mp1_1 => k_is)
    (case ma1_2 => k_is); (case mi1_2 => k_is); (case ml1_2 => k_is); (case mc1_2 => k_is); (case mp1_2 => k_is)
    (case ma1_3 => k_is); (case mi1_3 => k_is); (case ml1_3 => k_is); (case mc1_3 => k_is); (case mp1_3 => k_is)


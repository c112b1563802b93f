import PyProof.Rows.All
import Wide.All
import OpenK.AllK
import Wide.FinOn
import PyProof.EqAt
import PyProof.EqKinds
import PyProof.TupleCall
import Lean
import PySem.Challenge.RW_shiftmeet_k73_papers_written
-- CHANGE: your row's module here, as the last of these rows
set_option Elab.async false
set_option linter.all false
set_option maxRecDepth 100000
namespace L2
open PySem PySem.Spec PyProof.Rows

abbrev Key := Sum Int Str
def keyIs : Key → Value → Bool
  | .inl k, v => Value.isInt k v
  | .inr x, v => Value.isStrOf x v
def keyH (w : World) : Key → Int
  | .inl k => hashInt k
  | .inr x => hashStr w x
theorem keyIs_shape : ∀ {k : Key} {v : Value}, keyIs k v = true → (∃ i t, k = Sum.inl i ∧ v = Value.int i t) ∨ (∃ x t, k = Sum.inr x ∧ v = Value.str x t)
  | .inl i, v, h => by
    obtain ⟨t, e⟩ := Value.isInt_shape (k := i) (v := v) h
    exact .inl ⟨i, t, rfl, e⟩
  | .inr x, v, h => by
    obtain ⟨t, e⟩ := Value.isStrOf_shape (x := x) (v := v) h
    exact .inr ⟨x, t, rfl, e⟩
theorem key_ll (a b : Int) : decide ((Sum.inl a : Key) = Sum.inl b) = (a == b) := by
  by_cases e : a = b
  · subst e; simp
  · have h : ¬ (Sum.inl a : Key) = Sum.inl b := fun q => e (Sum.inl.inj q)
    rw [decide_eq_false h]
    exact (beq_eq_false_iff_ne.mpr e).symm
theorem key_rr (a b : Str) : decide ((Sum.inr a : Key) = Sum.inr b) = decide (a = b) := by
  by_cases e : a = b
  · subst e; simp
  · have h : ¬ (Sum.inr a : Key) = Sum.inr b := fun q => e (Sum.inr.inj q)
    rw [decide_eq_false h, decide_eq_false e]
theorem key_lr (a : Int) (b : Str) : decide ((Sum.inl a : Key) = Sum.inr b) = false := decide_eq_false (fun q => nomatch q)
theorem key_rl (a : Str) (b : Int) : decide ((Sum.inr a : Key) = Sum.inl b) = false := decide_eq_false (fun q => nomatch q)

def mixKind (prog : Program) (w : World) : PySem.KeyKind prog w Key where
  is := keyIs
  hash := keyH w
  inj := fun v a b ha hb => by
    rcases keyIs_shape ha with ⟨i, t, rfl, rfl⟩ | ⟨x, t, rfl, rfl⟩
    · rcases keyIs_shape hb with ⟨j, u, rfl, e⟩ | ⟨y, u, rfl, e⟩
      · injection e with e1 _; rw [e1]
      · exact nomatch e
    · rcases keyIs_shape hb with ⟨j, u, rfl, e⟩ | ⟨y, u, rfl, e⟩
      · exact nomatch e
      · injection e with e1 _; rw [e1]
  byValue := fun k v h => by
    rcases keyIs_shape h with ⟨i, t, rfl, rfl⟩ | ⟨x, t, rfl, rfl⟩ <;> rfl
  pyHash := fun hv h => by
    rcases keyIs_shape hv with ⟨i, t, rfl, rfl⟩ | ⟨x, t, rfl, rfl⟩
    · exact wpAny_pyHash_int h
    · exact wpAny_pyHash_str h
  eqBool := fun hu hv h => by
    rcases keyIs_shape hu with ⟨i, t, rfl, rfl⟩ | ⟨x, t, rfl, rfl⟩
    · rcases keyIs_shape hv with ⟨j, u, rfl, rfl⟩ | ⟨y, u, rfl, rfl⟩
      · rw [key_ll] at h; exact wpAny_eqBool_int h
      · rw [key_lr] at h; exact SeqAt.EqAt.int_str i t y u _ _ _ _ h
    · rcases keyIs_shape hv with ⟨j, u, rfl, rfl⟩ | ⟨y, u, rfl, rfl⟩
      · rw [key_rl] at h; exact SeqAt.EqAt.str_int x t j u _ _ _ _ h
      · rw [key_rr] at h; exact wpAny_eqBool_str h
  «strs» := fun k x t v h => by
    rcases keyIs_shape h with ⟨i, u, rfl, e⟩ | ⟨y, u, rfl, e⟩
    · exact nomatch e
    · injection e with e1 _
      subst e1
      cases v <;> rfl

end L2

namespace L2
open PySem PySem.Spec PyProof.Rows

inductive V where
  | non | bl (b : Bool) | int (i : Int) | str (x : Str) | byt (b : Array UInt8) | flt (b : UInt64) | ref (a : Addr) | ty (n : String)
  deriving DecidableEq

def RelV : V → Value → Prop
  | .non, u => u = Value.none
  | .bl b, u => u = Value.bool b
  | .int i, u => ∃ t, u = Value.int i t
  | .str x, u => ∃ t, u = Value.str x t
  | .byt b, u => ∃ t, u = Value.bytes b t
  | .flt b, u => ∃ t, u = Value.float b t
  | .ref a, u => u = Value.ref a
  | .ty n, u => u = Value.type n

abbrev Vals : List V → List Value → Prop := Paired RelV
theorem Vals.length {xs : List V} {us : List Value} (r : Vals xs us) : xs.length = us.length := Paired.length r
theorem Vals.get : ∀ {xs : List V} {us : List Value} {i : Nat} {x : V}, Vals xs us → xs[i]? = some x → ∃ u, us[i]? = some u ∧ RelV x u
  | _, _, _, _, .nil, e => by simp at e
  | _, _, 0, _, .cons r _, e => by simp at e; subst e; exact ⟨_, rfl, r⟩
  | _, _, i + 1, x, .cons _ t, e => by
    obtain ⟨u, h1, h2⟩ := Vals.get (i := i) (x := x) t (by simpa using e)
    exact ⟨u, by simpa using h1, h2⟩
theorem Vals.set {x : V} {u : Value} (r : RelV x u) : ∀ {xs : List V} {us : List Value} (i : Nat), Vals xs us → Vals (xs.set i x) (us.set i u)
  | _, _, _, .nil => .nil
  | _, _, 0, .cons _ t => .cons r t
  | _, _, i + 1, .cons q t => .cons q (Vals.set r i t)
theorem Vals.append : ∀ {xs ys : List V} {us ws : List Value}, Vals xs us → Vals ys ws → Vals (xs ++ ys) (us ++ ws)
  | _, _, _, _, .nil, s => s
  | _, _, _, _, .cons r t, s => .cons r (Vals.append t s)
theorem Vals.take : ∀ {xs : List V} {us : List Value} (n : Nat), Vals xs us → Vals (xs.take n) (us.take n)
  | _, _, 0, _ => .nil
  | _, _, _ + 1, .nil => .nil
  | _, _, n + 1, .cons r t => .cons r (Vals.take n t)
theorem Vals.drop : ∀ {xs : List V} {us : List Value} (n : Nat), Vals xs us → Vals (xs.drop n) (us.drop n)
  | _, _, 0, r => r
  | _, _, _ + 1, .nil => .nil
  | _, _, n + 1, .cons _ t => Vals.drop n t
theorem Vals.none_of : ∀ {xs : List V} {us : List Value} {i : Nat}, Vals xs us → xs[i]? = none → us[i]? = none := fun {xs us i} r e => by
  have h1 := r.length
  have h2 : xs.length ≤ i := List.getElem?_eq_none_iff.mp e
  exact List.getElem?_eq_none_iff.mpr (by omega)

def RelO : Option V → Option Value → Prop
  | some v, some u => RelV v u
  | none, none => True
  | _, _ => False
def KV {κ : Type} : List (κ × V) → List (κ × Value) → Prop := Paired fun (p : κ × V) (q : κ × Value) => p.1 = q.1 ∧ RelV p.2 q.2

def kV : Key → V
  | .inl i => .int i
  | .inr x => .str x

inductive HO where
  /-- a list -/
  | lst (xs : List V)
  /-- a tuple (never changes) -/
  | tup (xs : List V)
  /-- a dict whose keys are ints and texts; one whose keys are tuples of ints and texts (the empty one is both) -/
  | dK (kvs : List (Key × V)) | dT (kvs : List (List Key × V))
  /-- a set of ints: its members, its size -/
  | set (S : Int → Bool) (n : Nat)
  /-- an instance of the class at C, its dict at dx, its attributes -/
  | ins (C dx : Addr) (fs : List (Str × V))
  /-- the dict of the instance at x -/
  | own (x : Addr)
  /-- the dict of an exception -/
  | xd (fs : List (Str × V))
  /-- a bound method, f of x -/
  | met (f x : Addr)
  /-- a range object lo, lo + 1, .. below hi -/
  | rng (lo hi : Int)
  /-- a thing that is known to the object (the script; a dict while a loop walks it): read, never written while it is so -/
  | frz (o : Obj) (u : HO)
  /-- a code object's table -/
  | tbl (ps : Array Value)
  /-- any other thing, by what is true of its one object (a def of one's own: SetO a S n := HO.ext fun h => ..) -/
  | ext (φ : Heap → Prop)

abbrev Hp := Addr → Option HO
def upd (H : Hp) (a : Addr) (o : HO) : Hp := fun b => if b = a then some o else H b
theorem upd_same {H : Hp} {a : Addr} {o : HO} : upd H a o a = some o := by unfold upd; rw [if_pos rfl]
theorem upd_ne {H : Hp} {a b : Addr} {o : HO} (h : b ≠ a) : upd H a o b = H b := by unfold upd; rw [if_neg h]
theorem ne_of {H : Hp} {a b : Addr} {o u : HO} (h : H a = some o) (h' : H b = some u) (d : o ≠ u) : a ≠ b := by
  intro e; subst e; rw [h] at h'; exact d (Option.some.inj h')
theorem ne_of_none {H : Hp} {a b : Addr} {o : HO} (h : H a = some o) (h' : H b = none) : a ≠ b := by
  intro e; subst e; rw [h] at h'; cases h'

section
variable (P : Program) (w : World)
def ObjOk (H : Hp) (h : Heap) (a : Addr) : HO → Prop
  | .lst xs => xs.length ≤ sizeLine ∧ ∃ (its : List Value) (n : Nat), Vals xs its ∧ h.get? a = some { cls := .type "list", data := .seq its.toArray n }
  | .tup xs => xs.length ≤ sizeLine ∧ ∃ its : List Value, Vals xs its ∧ IsTup h a its.toArray
  | .dK kvs => kvs.length ≤ sizeLine ∧ (a == sysModules) = false ∧ ∃ vs, KV kvs vs ∧ h.DictOf (mixKind P w) a vs
  | .dT kvs => kvs.length ≤ sizeLine ∧ (a == sysModules) = false ∧ ∃ xs : List (List Key × Addr × Value),
      Paired (fun (p : List Key × V) (q : List Key × Addr × Value) => p.1 = q.1 ∧ H q.2.1 = some (.tup (p.1.map kV)) ∧ RelV p.2 q.2.2) kvs xs ∧
      ∃ o es ep, h.get? a = some o ∧ o.ExactDict ∧ o.data = .dict es ep ∧ es.toList = xs.map (entryOfKey (tupleKind (mixKind P w))) ∧ (xs.map (·.1)).Nodup
  | .set S n => h.SetOf (intKind P w) a S n
  | .ins C dx fs => H dx = some (.own a) ∧ fs.length ≤ 1000 ∧ dx ≠ a ∧ h.get? a = some (PySem.W.instObj C dx) ∧
      ∃ mA, h.Ns1 dx mA ∧ (∀ f, RelO (fs.lookup f) (mA f)) ∧ PySem.Within mA (fs.map (·.1))
  | .own _ => ∃ o, h.get? a = some o
  | .xd fs => ∃ mA, h.Ns1 a mA ∧ ∀ f, RelO (fs.lookup f) (mA f)
  | .rng lo hi => ∃ t u v, h.get? a = some { cls := .type "range", data := .fields #[.int lo t, .int hi u, .int 1 v] }
  | .frz o u => h.get? a = some o ∧ ObjOk H h a u
  | .tbl ps => h.get? a = some { cls := .none, data := .fields ps }
  | .met f x => h.get? a = some (PySem.W.methodObj (.ref f) (.ref x))
  | .ext φ => φ h ∧ (∃ o, h.get? a = some o) ∧ ∀ h1 h2 : Heap, φ h1 → (∀ o, h1.get? a = some o → h2.get? a = some o) → φ h2
def HOk (H : Hp) (h : Heap) : Prop := ∀ a o, H a = some o → ObjOk P w H h a o
end

section
variable {P : Program} {w : World} {H H' : Hp} {h h' : Heap} {a : Addr} {o : HO}
theorem ObjOk.lt (x : ObjOk P w H h a o) : a < h.objs.size := by
  cases o with
  | lst xs => obtain ⟨_, _, _, _, e⟩ := x; exact Heap.lt_size e
  | tup xs => obtain ⟨_, _, _, p⟩ := x; exact p.lt
  | dK kvs => obtain ⟨_, _, _, _, o, _, _, e, _⟩ := x; exact Heap.lt_size e
  | dT kvs => obtain ⟨_, _, _, _, o, _, _, e, _⟩ := x; exact Heap.lt_size e
  | set S n => obtain ⟨o, _, _, _, e, _⟩ := x; exact Heap.lt_size e
  | ins C dx fs => obtain ⟨_, _, _, e, _⟩ := x; exact Heap.lt_size e
  | own y => obtain ⟨_, e⟩ := x; exact Heap.lt_size e
  | xd fs => obtain ⟨_, ⟨_, _, _, e, _⟩, _⟩ := x; exact Heap.lt_size e
  | rng lo hi => obtain ⟨_, _, _, e⟩ := x; exact Heap.lt_size e
  | frz ob u => obtain ⟨e, _⟩ := x; exact Heap.lt_size e
  | tbl ps => exact Heap.lt_size (show h.get? a = some _ from x)
  | met f y => exact Heap.lt_size (show h.get? a = some _ from x)
  | ext φ => obtain ⟨_, ⟨_, e⟩, _⟩ := x; exact Heap.lt_size e
theorem Paired.mapP {α β : Type} {F G : α → β → Prop} : ∀ {l₁ : List α} {l₂ : List β}, Paired F l₁ l₂ → (∀ a b, F a b → G a b) → Paired G l₁ l₂
  | _, _, .nil, _ => .nil
  | _, _, .cons r t, f => .cons (f _ _ r) (Paired.mapP t f)
theorem ObjOk.stay (x : ObjOk P w H h a o) (k : ∀ b u, (b = a ∨ H b = some (.own a)) → h.get? b = some u → h'.get? b = some u)
    (ho : ∀ b, H b = some (.own a) → H' b = some (.own a)) (ht : ∀ b xs, H b = some (.tup xs) → H' b = some (.tup xs)) : ObjOk P w H' h' a o := by
  induction o with
  | lst xs => obtain ⟨z, its, n, r, e⟩ := x; exact ⟨z, its, n, r, k _ _ (.inl rfl) e⟩
  | tup xs => obtain ⟨z, its, r, ob, e, c⟩ := x; exact ⟨z, its, r, ob, k _ _ (.inl rfl) e, c⟩
  | dK kvs => obtain ⟨z, y, vs, r, ob, es, ep, e, c⟩ := x; exact ⟨z, y, vs, r, ob, es, ep, k _ _ (.inl rfl) e, c⟩
  | dT kvs =>
    obtain ⟨z, y, xs, r, ob, es, ep, e, c⟩ := x
    exact ⟨z, y, xs, Paired.mapP r fun p q z => ⟨z.1, ht _ _ z.2.1, z.2.2⟩, ob, es, ep, k _ _ (.inl rfl) e, c⟩
  | set S n => obtain ⟨ob, es, ep, t, e, c⟩ := x; exact ⟨ob, es, ep, t, k _ _ (.inl rfl) e, c⟩
  | ins C dx fs =>
    obtain ⟨d, z, ne, e, mA, ⟨od, es, ep, e2, c⟩, r⟩ := x
    exact ⟨ho _ d, z, ne, k _ _ (.inl rfl) e, mA, ⟨od, es, ep, k _ _ (.inr d) e2, c⟩, r⟩
  | own y => obtain ⟨ob, e⟩ := x; exact ⟨ob, k _ _ (.inl rfl) e⟩
  | xd fs => obtain ⟨mA, ⟨od, es, ep, e, c⟩, r⟩ := x; exact ⟨mA, ⟨od, es, ep, k _ _ (.inl rfl) e, c⟩, r⟩
  | rng lo hi => obtain ⟨t, u, v, e⟩ := x; exact ⟨t, u, v, k _ _ (.inl rfl) e⟩
  | frz ob u ih => obtain ⟨e, q⟩ := x; exact ⟨k _ _ (.inl rfl) e, ih q⟩
  | tbl ps =>
    have e : h.get? a = some { cls := .none, data := .fields ps } := x
    show h'.get? a = some { cls := .none, data := .fields ps }
    exact k a _ (.inl rfl) e
  | met f y =>
    have e : h.get? a = some (PySem.W.methodObj (.ref f) (.ref y)) := x
    show h'.get? a = some (PySem.W.methodObj (.ref f) (.ref y))
    exact k a _ (.inl rfl) e
  | ext φ => obtain ⟨p, ⟨o, e⟩, st⟩ := x; exact ⟨st _ _ p fun o q => k _ _ (.inl rfl) q, ⟨o, k _ _ (.inl rfl) e⟩, st⟩
theorem HOk.lt (x : HOk P w H h) (e : H a = some o) : a < h.objs.size := (x a o e).lt
theorem HOk.fresh (x : HOk P w H h) (e : h.objs.size ≤ a) : H a = none := by
  cases q : H a with
  | none => rfl
  | some u => exact absurd (Nat.lt_of_lt_of_le (x.lt q) e) (Nat.lt_irrefl _)
theorem HOk.kept (x : HOk P w H h) (k : ∀ b u, h.get? b = some u → h'.get? b = some u) : HOk P w H h' := fun a o e =>
  (x a o e).stay (fun b u _ q => k b u q) (fun _ q => q) fun _ _ q => q
theorem HOk.laid (x : HOk P w H h) (k : ∀ b u, h.get? b = some u → h'.get? b = some u) (hp : h.objs.size ≤ a) (new : ObjOk P w (upd H a o) h' a o) : HOk P w (upd H a o) h' := fun b u e => by
  have hn := x.fresh hp
  by_cases hb : b = a
  · subst hb; rw [upd_same] at e; cases e; exact new
  · rw [upd_ne hb] at e
    exact (x b u e).stay (fun c v _ q => k c v q) (fun c q => by rw [upd_ne (ne_of_none q hn)]; exact q) fun c xs q => by rw [upd_ne (ne_of_none q hn)]; exact q
end

def Rd (H : Hp) (a : Addr) (u : HO) : Prop := H a = some u ∨ ∃ o, H a = some (.frz o u)
theorem Rd.of {H : Hp} {a : Addr} {u : HO} (h : H a = some u) : Rd H a u := .inl h
theorem Rd.ok {P : Program} {w : World} {H : Hp} {h : Heap} {a : Addr} {u : HO} (r : Rd H a u) (x : HOk P w H h) : ObjOk P w H h a u := by
  rcases r with r | ⟨o, r⟩
  · exact x a u r
  · obtain ⟨_, q⟩ := x a _ r
    exact q
def Mut : Option HO → Prop
  | some (.lst _) => True
  | some (.dK _) => True
  | some (.dT _) => True
  | some (.set _ _) => True
  | some (.ins _ _ _) => True
  | some (.ext _) => True
  | _ => False
section
variable {P : Program} {w : World} {H : Hp} {h h' : Heap} {x e : Addr} {o' : HO}
theorem HOk.write (ok : HOk P w H h) (mu : Mut (H x)) (he : e = x ∨ H e = some (.own x)) (k : ∀ b u, b ≠ e → h.get? b = some u → h'.get? b = some u) (heo : ∃ u, h'.get? e = some u)
    (new : ObjOk P w (upd H x o') h' x o') : HOk P w (upd H x o') h' := fun b u q => by
  have nown : ∀ c y, H c = some (.own y) → c ≠ x := fun c y r z => by subst z; rw [r] at mu; exact mu
  have ntup : ∀ c xs, H c = some (.tup xs) → c ≠ x := fun c xs r z => by subst z; rw [r] at mu; exact mu
  by_cases hb : b = x
  · subst hb; rw [upd_same] at q; cases q; exact new
  · rw [upd_ne hb] at q
    by_cases hbe : b = e
    · have q' : H b = some (.own x) := by
        rcases he with z | z
        · exact absurd (hbe.trans z) hb
        · rw [hbe]; exact z
      rw [q] at q'; cases q'
      obtain ⟨v, hv⟩ := heo
      exact ⟨v, by rw [hbe]; exact hv⟩
    · refine (ok b u q).stay (fun c v hc r => k c v ?_ r) (fun c r => by rw [upd_ne (nown c b r)]; exact r) fun c xs r => by rw [upd_ne (ntup c xs r)]; exact r
      rcases hc with rfl | hc
      · exact hbe
      · rintro rfl
        rcases he with z | z
        · exact nown c b hc z
        · rw [hc] at z; cases z; exact hb rfl
end

structure Un (fs ex : List Addr) (H H' : Hp) (h h' : Heap) : Prop where
  keep : ∀ b o, h.get? b = some o → H b = none → b ∉ fs → b ∉ ex → h'.get? b = some o
  slot : ∀ b o, h.get? b = some o → H b = none → b ∈ fs → b ∉ ex → ∃ sl, h'.get? b = some { o with slots := sl }
  free : ∀ b o, h.get? b = some o → H b = none → b ∉ ex → H' b = none
  there : ∀ b o, h.get? b = some o → b ∉ ex → ∃ o', h'.get? b = some o'
  tups : ∀ b xs, H b = some (.tup xs) → H' b = some (.tup xs)
  frzs : ∀ b o u, H b = some (.frz o u) → H' b = some (.frz o u)
  tbls : ∀ b ps, H b = some (.tbl ps) → ∃ more, H' b = some (.tbl (ps ++ more))
section
variable {fs fs' ex ex' : List Addr} {H H1 H2 : Hp} {h h1 h2 h' : Heap} {a x e : Addr} {o : HO}
theorem Un.any (u : Un fs ex H H1 h h1) {b : Addr} {ob : Obj} (q : h.get? b = some ob) (n : H b = none) (hx : b ∉ ex) : ∃ sl, h1.get? b = some { ob with slots := sl } := by
  by_cases hb : b ∈ fs
  · exact u.slot b ob q n hb hx
  · exact ⟨ob.slots, u.keep b ob q n hb hx⟩
theorem Un.trans (a : Un fs ex H H1 h h1) (b : Un fs ex H1 H2 h1 h2) : Un fs ex H H2 h h2 where
  keep := fun c ob q n hc hx => b.keep c ob (a.keep c ob q n hc hx) (a.free c ob q n hx) hc hx
  slot := fun c ob q n hc hx => by
    obtain ⟨sl, e1⟩ := a.slot c ob q n hc hx
    obtain ⟨sl', e2⟩ := b.slot c _ e1 (a.free c ob q n hx) hc hx
    exact ⟨sl', e2⟩
  free := fun c ob q n hx => by
    obtain ⟨o', e1⟩ := a.there c ob q hx
    exact b.free c o' e1 (a.free c ob q n hx) hx
  there := fun c ob q hx => by
    obtain ⟨o', e1⟩ := a.there c ob q hx
    exact b.there c o' e1 hx
  tups := fun c xs q => b.tups c xs (a.tups c xs q)
  frzs := fun c ob xs q => b.frzs c ob xs (a.frzs c ob xs q)
  tbls := fun c ps q => by
    obtain ⟨m1, e1⟩ := a.tbls c ps q
    obtain ⟨m2, e2⟩ := b.tbls c _ e1
    exact ⟨m1 ++ m2, by rw [e2, Array.append_assoc]⟩
theorem Un.kept (k : ∀ b u, h.get? b = some u → h'.get? b = some u) : Un fs ex H H h h' :=
  ⟨fun b ob q _ _ _ => k b ob q, fun b ob q _ _ _ => ⟨ob.slots, k b ob q⟩, fun _ _ _ n _ => n, fun b ob q _ => ⟨ob, k b ob q⟩, fun _ _ q => q, fun _ _ _ q => q, fun _ ps q => ⟨#[], by rw [q]; simp⟩⟩
theorem Un.refl : Un fs ex H H h h := Un.kept fun _ _ q => q
theorem Un.laid (k : ∀ b u, h.get? b = some u → h'.get? b = some u) (hp : h.objs.size ≤ a) (hn : H a = none) : Un fs ex H (upd H a o) h h' where
  keep := fun b u q _ _ _ => k b u q
  slot := fun b u q _ _ _ => ⟨u.slots, k b u q⟩
  free := fun b u q n _ => by rw [upd_ne (Nat.ne_of_lt (Nat.lt_of_lt_of_le (Heap.lt_size q) hp))]; exact n
  there := fun b u q _ => ⟨u, k b u q⟩
  tups := fun b xs q => by rw [upd_ne (ne_of_none q hn)]; exact q
  frzs := fun b u xs q => by rw [upd_ne (ne_of_none q hn)]; exact q
  tbls := fun b ps q => ⟨#[], by rw [upd_ne (ne_of_none q hn), q]; simp⟩
theorem Un.write (mu : Mut (H x)) (he : e = x ∨ H e = some (.own x)) (k : ∀ b u, b ≠ e → h.get? b = some u → h'.get? b = some u) (heo : ∃ u, h'.get? e = some u) : Un fs ex H (upd H x o) h h' := by
  have hx : ∀ b, H b = none → b ≠ x := fun b n z => by subst z; rw [n] at mu; exact mu
  have hb : ∀ b, H b = none → b ≠ e := fun b n z => by
    subst z
    rcases he with r | r
    · exact hx b n r
    · rw [n] at r; cases r
  have hm : ∀ b u, H b = some u → ¬ Mut (some u) → b ≠ x := fun b u q nm z => by subst z; rw [q] at mu; exact nm mu
  refine ⟨fun b u q n _ _ => k b u (hb b n) q, fun b u q n _ _ => ⟨u.slots, k b u (hb b n) q⟩, fun b u q n _ => by rw [upd_ne (hx b n)]; exact n, fun b u q _ => ?_,
    fun b xs q => by rw [upd_ne (hm b _ q fun z => z)]; exact q, fun b u xs q => by rw [upd_ne (hm b _ q fun z => z)]; exact q, fun b ps q => ⟨#[], by rw [upd_ne (hm b _ q fun z => z), q]; simp⟩⟩
  by_cases hbe : b = e
  · subst hbe; exact heo
  · exact ⟨u, k b u hbe q⟩
theorem Un.mono (u : Un fs ex H H1 h h1) (hs : ∀ b ∈ fs, b ∈ fs') (hx : ∀ b ∈ ex, b ∈ ex') : Un fs' ex' H H1 h h1 :=
  ⟨fun b ob q n hb he => u.keep b ob q n (fun z => hb (hs b z)) fun z => he (hx b z), fun _ _ q n _ he => u.any q n fun z => he (hx _ z), fun b ob q n he => u.free b ob q n fun z => he (hx b z), fun b ob q he => u.there b ob q fun z => he (hx b z), u.tups, u.frzs, u.tbls⟩
end

def trk (h : Heap) (H : Hp) : List Addr := (List.range h.objs.size).filter fun a => (H a).isSome
def hidT (h : Heap) (H : Hp) : Heap := PySem.W.hideAll h (trk h H)
theorem hidT_size (h : Heap) (H : Hp) : (hidT h H).objs.size = h.objs.size := PySem.W.hideAll_size _ _
theorem hidT_get {h : Heap} {H : Hp} {b : Addr} {o : Obj} (e : h.get? b = some o) (n : H b = none) : (hidT h H).get? b = some o :=
  PySem.W.hideAll_get _ e fun hm => by
    have q : (H b).isSome = true := (List.mem_filter.mp hm).2
    rw [n] at q; simp at q
theorem of_hidT {h : Heap} {H : Hp} {b : Addr} {o : Obj} (e : (hidT h H).get? b = some o) : h.get? b = some o ∧ H b = none := by
  have e' : h.get? b = some o := PySem.W.of_hideAll (trk h H) e
  refine ⟨e', ?_⟩
  cases q : H b with
  | none => rfl
  | some x =>
    have hm : b ∈ trk h H := List.mem_filter.mpr ⟨List.mem_range.mpr (Heap.lt_size e'), by simp [q]⟩
    have z : (hidT h H).get? b = none := PySem.W.hideAll_none (trk h H) hm
    rw [z] at e; cases e

def allNews (g h : Heap) (L : Addr) : List (Addr × Obj) := (List.range h.objs.size).filterMap fun a => if a = L ∨ (g.get? a).isSome = true then none else (h.get? a).map fun o => (a, o)
def rest (g h : Heap) (L d : Addr) : List (Addr × Obj) := (allNews g h L).filter fun p => decide (p.1 ≠ d)
end L2

namespace L2
open PySem PySem.Spec PyProof.Rows

structure Mod (K : PySem.W.Frag) (mg : Str → Option Value) (base : Heap) : Prop where
  kin : K.In base
  glob : base.Ns mainGlobals mg
  blt : ∃ mb, base.Ns builtinsNs mb ∧ ∀ x : Str, x ≠ "__name__" → mb x = bootBuiltins x
  nolimit : base.NoLimit

structure Cx where
  prog : Program
  w : World
  K : PySem.W.Frag
  mg : Str → Option Value
  base : Heap
  A : Around
  N : List Str
  s₀ : Shared
  H₀ : Hp
  env : Env
  outer : List Env
  stack : List Env
  ex : List Addr
  fn : Str → Bool
  calm : Bool
  pn : List (Addr × Obj)
  xe : Value → Shared → Prop
def frs (l : List Env) : List Addr := l.filterMap (·.frame)
abbrev Cx.fs (X : Cx) : List Addr := frs X.outer

def Vis (sc : Scope) (x : Str) : Prop := sc.names.lookup x = some .local ∨ sc.names.lookup x = some .cell ∨ sc.names.lookup x = some .free
def Loc (sc : Scope) (x : Str) : Prop := sc.names.lookup x = some .local ∨ sc.names.lookup x = some .cell
def Look (env : Env) (h : Heap) (m : Str → Option Value) (x : Str) (u : Value) : Prop :=
  (env.kindOf x = some .local ∧ m x = some u) ∨ ((env.kindOf x = some .cell ∨ env.kindOf x = some .free) ∧ ∃ c, env.cells.lookup x = some c ∧ h.IsCell c (some u))

structure Cx.Ok (X : Cx) : Prop where
  mod : Mod X.K X.mg X.base
  kind : X.env.scope.kind = .function
  glob : X.env.globals = mainGlobals
  blt : X.env.builtins = builtinsNs
  above : X.s₀.heap.objs.size ≤ X.env.locals
  inj : ∀ x y c, X.env.cells.lookup x = some c → X.env.cells.lookup y = some c → x = y
  has : ∀ x, (X.env.kindOf x = some .cell ∨ X.env.kindOf x = some .free) → ∃ c, X.env.cells.lookup x = some c
  cab : ∀ x c, X.fn x = true → X.env.cells.lookup x = some c → X.s₀.heap.objs.size ≤ c
  hd : X.calm = true → X.A.handled = none
  frames : X.A.frames = some X.stack
  stk : X.stack = X.outer ∨ (X.stack = X.env :: X.outer ∧ X.env.frame = some X.env.locals)
  exf : ∀ b ∈ X.ex, b ≠ X.env.locals ∧ ∀ x c, X.env.cells.lookup x = some c → c ≠ b
  bs : ∀ b o, X.base.get? b = some o → X.s₀.heap.get? b = some o ∧ X.H₀ b = none
  bsz : X.base.objs.size ≤ X.s₀.heap.objs.size
  noex : ∀ b o, X.base.get? b = some o → b ∉ X.ex
  exfs : ∀ b ∈ X.ex, b ∉ X.fs
  funs : X.s₀.heap.FunFrames X.base X.outer
  frf : ∀ b ∈ X.fs, X.H₀ b = none

structure Inv (X : Cx) (pins : List (Addr × Obj)) (σ : List (Option V)) (H : Hp) (s : Shared) : Prop where
  ok : X.Ok
  os : s.os = X.s₀.os
  bare : AllBare s.gens
  base : Un X.fs X.ex X.H₀ H X.s₀.heap s.heap
  loc : ∃ m, s.heap.Ns X.env.locals m ∧ ∀ (i : Nat) (x : Str) (v : V), X.N[i]? = some x → σ[i]? = some (some v) → Vis X.env.scope x → ∃ u, RelV v u ∧ Look X.env s.heap m x u
  cell : ∀ x c, X.env.cells.lookup x = some c → ∃ v, s.heap.IsCell c v
  free : H X.env.locals = none
  freeC : ∀ x c, X.env.cells.lookup x = some c → H c = none
  pin : ∀ p ∈ X.pn ++ pins, s.heap.get? p.1 = some p.2 ∧ H p.1 = none ∧ p.1 ≠ X.env.locals ∧ p.1 ∉ X.fs ∧ ∀ v, p.2.data ≠ .cell v
  hok : HOk X.prog X.w H s.heap
  len : σ.length = X.N.length

section
variable {X : Cx} {pins : List (Addr × Obj)} {σ : List (Option V)} {H H' : Hp} {s : Shared} {h' : Heap}

theorem Cx.Ok.nofr (ok : X.Ok) {b : Addr} {o : Obj} (e : X.base.get? b = some o) : b ∉ X.fs := fun hb => by
  have := (ok.funs.mem hb).1
  rw [e] at this; cases this
theorem Inv.bs (I : Inv X pins σ H s) : ∀ b o, X.base.get? b = some o → s.heap.get? b = some o ∧ H b = none := fun b o e =>
  ⟨I.base.keep b o (I.ok.bs b o e).1 (I.ok.bs b o e).2 (I.ok.nofr e) (I.ok.noex b o e), I.base.free b o (I.ok.bs b o e).1 (I.ok.bs b o e).2 (I.ok.noex b o e)⟩
theorem Inv.bk (I : Inv X pins σ H s) : ∀ b o, X.base.get? b = some o → s.heap.get? b = some o := fun b o e => (I.bs b o e).1
theorem Inv.mod (I : Inv X pins σ H s) : Mod X.K X.mg X.base := I.ok.mod
theorem Inv.kIn (I : Inv X pins σ H s) : X.K.In s.heap := I.ok.mod.kin.keeps I.bk
theorem Inv.nolimit (I : Inv X pins σ H s) : s.heap.NoLimit := I.ok.mod.nolimit.keeps I.bk
theorem Inv.fr (I : Inv X pins σ H s) : ∃ m, Fr X.base X.env.locals s.heap m :=
  let ⟨m, hn, _⟩ := I.loc
  ⟨m, hn, I.bk, Nat.le_trans I.ok.bsz I.ok.above⟩
theorem Inv.lt (I : Inv X pins σ H s) : X.env.locals < s.heap.objs.size := let ⟨_, hn, _⟩ := I.loc; hn.lt
theorem Inv.sz (I : Inv X pins σ H s) : X.s₀.heap.objs.size ≤ s.heap.objs.size := Nat.le_trans I.ok.above (Nat.le_of_lt I.lt)
theorem Inv.nofs (I : Inv X pins σ H s) {a : Addr} (h : s.heap.objs.size ≤ a) : a ∉ X.fs := fun hb => by
  obtain ⟨_, o, ho, _⟩ := I.ok.funs.mem hb
  exact absurd (Nat.lt_of_lt_of_le (Heap.lt_size ho) (Nat.le_trans I.sz h)) (Nat.lt_irrefl _)
theorem Inv.cne (I : Inv X pins σ H s) : ∀ x c, X.env.cells.lookup x = some c → c ≠ X.env.locals := fun x c e z => by
  obtain ⟨v, o, ho, hd⟩ := I.cell x c e
  obtain ⟨m, ⟨o', es, ep, ho', hd', _⟩, _⟩ := I.loc
  rw [z, ho'] at ho; cases ho; rw [hd'] at hd; cases hd
theorem Inv.funs (I : Inv X pins σ H s) : s.heap.FunFrames X.base X.outer := by
  have all : ∀ (l : List Env), (∀ b ∈ frs l, b ∈ X.fs) → X.s₀.heap.FunFrames X.base l → s.heap.FunFrames X.base l := by
    intro l
    induction l with
    | nil => intro _ _; trivial
    | cons env r ih =>
      intro hs hl
      obtain ⟨hk, ⟨L, o, hf, hn, ho, hd⟩, hr⟩ := hl
      have hL : L ∈ X.fs := hs L (by unfold frs; rw [List.filterMap_cons, hf]; exact List.mem_cons_self)
      obtain ⟨sl, e⟩ := I.base.slot L o ho (I.ok.frf L hL) hL fun z => I.ok.exfs L z hL
      exact ⟨hk, ⟨L, _, hf, hn, e, hd⟩, ih (fun b hb => hs b (by unfold frs; rw [List.filterMap_cons, hf]; exact List.mem_cons_of_mem _ hb)) hr⟩
  exact all X.outer (fun _ hb => hb) I.ok.funs

theorem Inv.stack (I : Inv X pins σ H s) : s.heap.FunFrames X.base X.stack := by
  rcases I.ok.stk with e | ⟨e, hf⟩
  · rw [e]; exact I.funs
  · rw [e]
    obtain ⟨m, hn, _⟩ := I.loc
    refine .cons (by rw [I.ok.kind]; decide) hf hn ?_ I.funs
    exact Heap.get?_none_of_le (Nat.le_trans I.ok.bsz I.ok.above)
theorem Inv.stkSub (I : Inv X pins σ H s) : ∀ b ∈ frs X.stack, b ∈ X.env.locals :: X.fs := fun b hb => by
  rcases I.ok.stk with e | ⟨e, hf⟩
  · rw [e] at hb; exact List.mem_cons_of_mem _ hb
  · rw [e] at hb
    unfold frs at hb
    rw [List.filterMap_cons, hf] at hb
    exact hb
theorem Inv.stkFree (I : Inv X pins σ H s) : ∀ b ∈ frs X.stack, H b = none := fun b hb => by
  rcases List.mem_cons.mp (I.stkSub b hb) with e | hb
  · rw [e]; exact I.free
  · obtain ⟨_, o, ho, _⟩ := I.ok.funs.mem hb
    exact I.base.free b o ho (I.ok.frf b hb) fun z => I.ok.exfs b z hb

theorem Inv.step {g' : Array GenState} {t' : Nat} {d' : Drawn} {ch : List Addr} (I : Inv X pins σ H s)
    (hch : ∀ b ∈ ch, (b ∈ X.ex ∨ X.s₀.heap.objs.size ≤ b) ∧ b ≠ X.env.locals ∧ (∀ x c, X.env.cells.lookup x = some c → c ≠ b) ∧ ∀ p ∈ X.pn ++ pins, p.1 ≠ b)
    (keep : ∀ b o, b ≠ X.env.locals → b ∉ X.fs → b ∉ ch → s.heap.get? b = some o → H b = none → h'.get? b = some o)
    (slot : ∀ b o, b ≠ X.env.locals → b ∈ X.fs → b ∉ ch → s.heap.get? b = some o → H b = none → ∃ sl, h'.get? b = some { o with slots := sl }) (free : ∀ b o, b ∉ ch → s.heap.get? b = some o → H b = none → H' b = none)
    (there : ∀ b o, b ∉ ch → s.heap.get? b = some o → ∃ o', h'.get? b = some o')
    (tups : ∀ b xs, H b = some (.tup xs) → H' b = some (.tup xs)) (frzs : ∀ b o u, H b = some (.frz o u) → H' b = some (.frz o u)) (tbls : ∀ b ps, H b = some (.tbl ps) → ∃ more, H' b = some (.tbl (ps ++ more)))
    (ns : ∀ m, s.heap.Ns X.env.locals m → h'.Ns X.env.locals m) (hok : HOk X.prog X.w H' h') (hg : AllBare g') :
    Inv X pins σ H' { s with heap := h', gens := g', drawn := d', toks := t' } := by
  have neL : ∀ b o, X.s₀.heap.get? b = some o → b ≠ X.env.locals := fun b o e => Nat.ne_of_lt (Nat.lt_of_lt_of_le (Heap.lt_size e) I.ok.above)
  have neC : ∀ b o, X.s₀.heap.get? b = some o → b ∉ X.ex → b ∉ ch := fun b o e hx hb => by
    rcases (hch b hb).1 with z | z
    · exact hx z
    · exact absurd (Nat.lt_of_lt_of_le (Heap.lt_size e) z) (Nat.lt_irrefl _)
  have cellK : ∀ x c, X.env.cells.lookup x = some c → ∀ v, s.heap.IsCell c v → h'.IsCell c v := fun x c e v ⟨o, ho, hd⟩ => by
    have nch : c ∉ ch := fun z => (hch c z).2.2.1 x c e rfl
    by_cases hc : c ∈ X.fs
    · obtain ⟨sl, q⟩ := slot c o (I.cne x c e) hc nch ho (I.freeC x c e)
      exact ⟨_, q, hd⟩
    · exact ⟨o, keep c o (I.cne x c e) hc nch ho (I.freeC x c e), hd⟩
  refine ⟨I.ok, I.os, hg, ⟨fun b o e n hb hx => ?_, fun b o e n hb hx => ?_, fun b o e n hx => ?_, fun b o e hx => ?_, fun b xs e => tups b xs (I.base.tups b xs e), fun b o xs e => frzs b o xs (I.base.frzs b o xs e), fun b ps e => ?_⟩, ?_, fun x c e => ?_, ?_, fun x c e => ?_, fun p hp => ?_, hok, I.len⟩
  · exact keep b o (neL b o e) hb (neC b o e hx) (I.base.keep b o e n hb hx) (I.base.free b o e n hx)
  · obtain ⟨sl, e1⟩ := I.base.slot b o e n hb hx
    obtain ⟨sl', e2⟩ := slot b _ (neL b o e) hb (neC b o e hx) e1 (I.base.free b o e n hx)
    exact ⟨sl', e2⟩
  · obtain ⟨o', e1⟩ := I.base.there b o e hx
    exact free b o' (neC b o e hx) e1 (I.base.free b o e n hx)
  · obtain ⟨o', e1⟩ := I.base.there b o e hx
    exact there b o' (neC b o e hx) e1
  · obtain ⟨m1, e1⟩ := I.base.tbls b ps e
    obtain ⟨m2, e2⟩ := tbls b _ e1
    exact ⟨m1 ++ m2, by rw [e2, Array.append_assoc]⟩
  · obtain ⟨m, hn, hl⟩ := I.loc
    refine ⟨m, ns m hn, fun i x v e1 e2 e3 => ?_⟩
    obtain ⟨u, r, l⟩ := hl i x v e1 e2 e3
    refine ⟨u, r, ?_⟩
    rcases l with l | ⟨k, c, e, z⟩
    · exact .inl l
    · exact .inr ⟨k, c, e, cellK x c e _ z⟩
  · obtain ⟨v, z⟩ := I.cell x c e
    exact ⟨v, cellK x c e v z⟩
  · obtain ⟨m, ⟨o, _, _, ho, _⟩, _⟩ := I.loc
    exact free _ o (fun z => (hch _ z).2.1 rfl) ho I.free
  · obtain ⟨v, o, ho, hd⟩ := I.cell x c e
    exact free c o (fun z => (hch c z).2.2.1 x c e rfl) ho (I.freeC x c e)
  · obtain ⟨e, n, ne, nf, d⟩ := I.pin p hp
    have nch : p.1 ∉ ch := fun z => (hch p.1 z).2.2.2 p hp rfl
    exact ⟨keep p.1 p.2 ne nf nch e n, free p.1 p.2 nch e n, ne, nf, d⟩
theorem Inv.un {t' : Nat} (I : Inv X pins σ H s) (u : Un X.fs [] H H' s.heap h') (hok : HOk X.prog X.w H' h') : Inv X pins σ H' { s with heap := h', toks := t' } := by
  obtain ⟨m, ⟨o, es, ep, ho, r⟩, _⟩ := id I.loc
  obtain ⟨sl, hL⟩ := u.any ho I.free (by simp)
  exact I.step (g' := s.gens) (d' := s.drawn) (ch := []) (fun _ z => nomatch z) (fun b o _ hb _ e n => u.keep b o e n hb (by simp)) (fun b o _ hb _ e n => u.slot b o e n hb (by simp)) (fun b o _ e n => u.free b o e n (by simp)) (fun b o _ e => u.there b o e (by simp)) u.tups u.frzs u.tbls (fun m' hm => by
    obtain ⟨o', es', ep', ho', r'⟩ := hm
    rw [ho] at ho'; cases ho'
    exact ⟨_, es', ep', hL, r'⟩) hok I.bare
theorem Inv.call {g' : Array GenState} {t' : Nat} {d' : Drawn} {ch : List Addr} (I : Inv X pins σ H s) (u : Un (frs X.stack) ch H H' s.heap h') (hok : HOk X.prog X.w H' h') (hg : AllBare g')
    (hch : ∀ b ∈ ch, (b ∈ X.ex ∨ X.s₀.heap.objs.size ≤ b) ∧ b ≠ X.env.locals ∧ (∀ x c, X.env.cells.lookup x = some c → c ≠ b) ∧ ∀ p ∈ X.pn ++ pins, p.1 ≠ b) :
    Inv X pins σ H' { s with heap := h', gens := g', drawn := d', toks := t' } := by
  obtain ⟨m, ⟨o, es, ep, ho, r⟩, _⟩ := id I.loc
  obtain ⟨sl, hL⟩ := u.any ho I.free fun z => (hch _ z).2.1 rfl
  exact I.step (ch := ch) hch (fun b o hL hb hc e n => u.keep b o e n (fun z => (List.mem_cons.mp (I.stkSub b z)).elim hL hb) hc) (fun b o _ _ hc e n => u.any e n hc) (fun b o hc e n => u.free b o e n hc) (fun b o hc e => u.there b o e hc) u.tups u.frzs u.tbls (fun m' hm => by
    obtain ⟨o', es', ep', ho', r'⟩ := hm
    rw [ho] at ho'; cases ho'
    exact ⟨_, es', ep', hL, r'⟩) hok hg
theorem Inv.turned {t' : Nat} {it : Addr} (I : Inv X pins σ H s) (k : ∀ b o, b ≠ it → s.heap.get? b = some o → h'.get? b = some o) (hn : H it = none) (hL : it ≠ X.env.locals)
    (h1 : it ∈ X.ex ∨ X.s₀.heap.objs.size ≤ it) (h2 : ∀ x c, X.env.cells.lookup x = some c → c ≠ it) (h3 : ∀ p ∈ X.pn ++ pins, p.1 ≠ it) : Inv X pins σ H { s with heap := h', toks := t' } := by
  have nit : ∀ b u, H b = some u → b ≠ it := fun b u e z => by rw [z, hn] at e; cases e
  refine I.step (g' := s.gens) (d' := s.drawn) (ch := [it]) (fun b hb => ?_) (fun b o _ _ hc e _ => k b o (fun z => hc (by simp [z])) e) (fun b o _ _ hc e _ => ⟨o.slots, k b o (fun z => hc (by simp [z])) e⟩) (fun _ _ _ _ n => n)
    (fun b o hc e => ⟨o, k b o (fun z => hc (by simp [z])) e⟩) (fun _ _ e => e) (fun _ _ _ e => e) (fun b ps e => ⟨#[], by rw [e]; simp⟩) (fun m hm => ?_) (fun b u e => ?_) I.bare
  · have e : b = it := by simpa using hb
    subst e
    exact ⟨h1, hL, h2, h3⟩
  · obtain ⟨o, es, ep, ho, r⟩ := hm
    exact ⟨o, es, ep, k _ o (Ne.symm hL) ho, r⟩
  · refine (I.hok b u e).stay (fun c v hc q => k c v ?_ q) (fun _ q => q) fun _ _ q => q
    rcases hc with z | z
    · rw [z]; exact nit b u e
    · exact nit c _ z
theorem Inv.tok (I : Inv X pins σ H s) (t : Nat) : Inv X pins σ H { s with toks := t } := I.un (h' := s.heap) (t' := t) Un.refl I.hok
theorem Inv.kept {t' : Nat} (I : Inv X pins σ H s) (k : ∀ b u, s.heap.get? b = some u → h'.get? b = some u) : Inv X pins σ H { s with heap := h', toks := t' } := I.un (Un.kept k) (I.hok.kept k)
theorem Inv.laid {a : Addr} {o : HO} {t' : Nat} (I : Inv X pins σ H s) (k : ∀ b u, s.heap.get? b = some u → h'.get? b = some u) (hp : s.heap.objs.size ≤ a) (new : ObjOk X.prog X.w (upd H a o) h' a o) :
    Inv X pins σ (upd H a o) { s with heap := h', toks := t' } := I.un (Un.laid k hp (I.hok.fresh hp)) (I.hok.laid k hp new)
theorem Inv.write {x e : Addr} {o : HO} {t' : Nat} (I : Inv X pins σ H s) (mu : Mut (H x)) (he : e = x ∨ H e = some (.own x)) (k : ∀ b u, b ≠ e → s.heap.get? b = some u → h'.get? b = some u) (heo : ∃ u, h'.get? e = some u)
    (new : ObjOk X.prog X.w (upd H x o) h' x o) : Inv X pins σ (upd H x o) { s with heap := h', toks := t' } := I.un (Un.write mu he k heo) (I.hok.write mu he k heo new)
theorem Inv.pins_of {pins' : List (Addr × Obj)} (I : Inv X pins σ H s) (h : ∀ p ∈ pins', s.heap.get? p.1 = some p.2 ∧ H p.1 = none ∧ p.1 ≠ X.env.locals ∧ p.1 ∉ X.fs ∧ ∀ v, p.2.data ≠ .cell v) : Inv X pins' σ H s :=
  ⟨I.ok, I.os, I.bare, I.base, I.loc, I.cell, I.free, I.freeC, fun p hp => (List.mem_append.mp hp).elim (fun z => I.pin p (List.mem_append_left _ z)) (h p), I.hok, I.len⟩

theorem nodup_ix {N : List Str} (hN : N.Nodup) {i j : Nat} {x : Str} (a : N[i]? = some x) (b : N[j]? = some x) : i = j := by
  obtain ⟨h1, e1⟩ := List.getElem?_eq_some_iff.mp a
  obtain ⟨h2, e2⟩ := List.getElem?_eq_some_iff.mp b
  exact (List.getElem_inj hN).mp (e1.trans e2.symm)

theorem store_ok2 {M : Model} {A : Around} {E : Value → Shared → Prop} {i : Nat} {x : Str} {v : V} {u : Value} {Q : Unit → Shared → Prop} (I : Inv X pins σ H s) (hN : X.N.Nodup) (hi : X.N[i]? = some x) (hx : Loc X.env.scope x) (r : RelV v u)
    (h : ∀ s', Inv X pins (σ.set i (some v)) H s' → (∃ a, Heap.SameBut a s.heap s'.heap ∧ (a = X.env.locals ∨ X.env.cells.lookup x = some a)) → Q () s') (hf : X.fn x = true ∨ X.env.scope.names.lookup x = some .local := by first | exact .inl rfl | exact .inr rfl | assumption) : wpAny M A (storeName X.env x u) Q E s := by
  obtain ⟨m, hn, hl⟩ := id I.loc
  have hcls : (X.env.scope.kind == .class || (X.env.scope.kind == .module && X.env.locals != X.env.globals)) = false := by rw [I.ok.kind]; rfl
  have hiσ : i < σ.length := by rw [I.len]; exact (List.getElem?_eq_some_iff.mp hi).1
  have cne := I.cne
  have tracked : ∀ {a : Addr} {h' : Heap}, (∃ o, s.heap.get? a = some o ∧ H a = none) → Heap.SameBut a s.heap h' → HOk X.prog X.w H h' := fun {a h'} ha hs b ob e => by
    obtain ⟨_, _, hfree⟩ := ha
    refine (I.hok b ob e).stay (fun c w' hc q => (hs.2 c ?_).trans q) (fun _ q => q) fun _ _ q => q
    rintro rfl
    rcases hc with rfl | hc
    · rw [hfree] at e; cases e
    · rw [hfree] at hc; cases hc
  rcases hx with hk | hk
  · refine wpAny_storeName_local hk hn (fun h' hn' hs => ?_) hcls
    obtain ⟨oL, _, _, hoL, _⟩ := id hn
    refine h _ ⟨I.ok, I.os, I.bare, ⟨fun b o e n hb hx => ?_, fun b o e n hb hx => ?_, I.base.free, fun b o e hx => ?_, I.base.tups, I.base.frzs, I.base.tbls⟩, ⟨_, hn', fun j y v' e1 e2 e3 => ?_⟩, fun y c e => ?_, I.free, I.freeC, fun p hp => ?_, tracked ⟨oL, hoL, I.free⟩ hs, by simpa using I.len⟩ ⟨_, hs, .inl rfl⟩
    · exact (hs.2 b (Nat.ne_of_lt (Nat.lt_of_lt_of_le (Heap.lt_size e) I.ok.above))).trans (I.base.keep b o e n hb hx)
    · obtain ⟨sl, e1⟩ := I.base.slot b o e n hb hx
      exact ⟨sl, (hs.2 b (Nat.ne_of_lt (Nat.lt_of_lt_of_le (Heap.lt_size e) I.ok.above))).trans e1⟩
    · obtain ⟨o', e1⟩ := I.base.there b o e hx
      exact ⟨o', (hs.2 b (Nat.ne_of_lt (Nat.lt_of_lt_of_le (Heap.lt_size e) I.ok.above))).trans e1⟩
    · by_cases hj : j = i
      · subst hj
        rw [hi] at e1; cases e1
        rw [List.getElem?_set_self hiσ] at e2
        cases e2
        exact ⟨u, r, .inl ⟨hk, by simp⟩⟩
      · rw [List.getElem?_set_ne (Ne.symm hj)] at e2
        obtain ⟨u', r', q⟩ := hl j y v' e1 e2 e3
        refine ⟨u', r', ?_⟩
        rcases q with ⟨k, e⟩ | ⟨k, c, e, z⟩
        · refine .inl ⟨k, ?_⟩
          have : y ≠ x := fun e => hj (nodup_ix hN e1 (e ▸ hi))
          simp [this, e]
        · exact .inr ⟨k, c, e, z.sameBut hs (cne y c e)⟩
    · obtain ⟨w', z⟩ := I.cell y c e
      exact ⟨w', z.sameBut hs (cne y c e)⟩
    · obtain ⟨e, n, ne, nf, d⟩ := I.pin p hp
      exact ⟨(hs.2 p.1 ne).trans e, n, ne, nf, d⟩
  · have hfn : X.fn x = true := by
      rcases hf with z | z
      · exact z
      · rw [z] at hk; cases hk
    obtain ⟨c, hc⟩ := I.ok.has x (.inl hk)
    obtain ⟨w', z⟩ := I.cell x c hc
    refine wpAny_storeName_cell I.ok.kind hk hc z (fun h' hc' hs => ?_)
    obtain ⟨oc, hoc, hocd⟩ := id z
    refine h { s with heap := h' } ⟨I.ok, I.os, I.bare, ⟨fun b o e n hb hx => ?_, fun b o e n hb hx => ?_, I.base.free, fun b o e hx => ?_, I.base.tups, I.base.frzs, I.base.tbls⟩, ⟨m, hn.sameBut hs (Ne.symm (cne x c hc)), fun j y v' e1 e2 e3 => ?_⟩, fun y c' e => ?_, I.free, I.freeC, fun p hp => ?_, tracked ⟨oc, hoc, I.freeC x c hc⟩ hs, by simpa using I.len⟩ ⟨c, hs, .inr hc⟩
    · exact (hs.2 b (Nat.ne_of_lt (Nat.lt_of_lt_of_le (Heap.lt_size e) (I.ok.cab x c hfn hc)))).trans (I.base.keep b o e n hb hx)
    · obtain ⟨sl, e1⟩ := I.base.slot b o e n hb hx
      exact ⟨sl, (hs.2 b (Nat.ne_of_lt (Nat.lt_of_lt_of_le (Heap.lt_size e) (I.ok.cab x c hfn hc)))).trans e1⟩
    · obtain ⟨o', e1⟩ := I.base.there b o e hx
      exact ⟨o', (hs.2 b (Nat.ne_of_lt (Nat.lt_of_lt_of_le (Heap.lt_size e) (I.ok.cab x c hfn hc)))).trans e1⟩
    · by_cases hj : j = i
      · subst hj
        rw [hi] at e1; cases e1
        rw [List.getElem?_set_self hiσ] at e2
        cases e2
        exact ⟨u, r, .inr ⟨.inl hk, c, hc, hc'⟩⟩
      · rw [List.getElem?_set_ne (Ne.symm hj)] at e2
        obtain ⟨u', r', q⟩ := hl j y v' e1 e2 e3
        refine ⟨u', r', ?_⟩
        rcases q with q | ⟨k, c', e, z'⟩
        · exact .inl q
        · refine .inr ⟨k, c', e, z'.sameBut hs ?_⟩
          rintro rfl
          exact hj (nodup_ix hN e1 (I.ok.inj _ _ _ e hc ▸ hi))
    · by_cases hcc : c' = c
      · subst hcc; exact ⟨_, hc'⟩
      · obtain ⟨w2, z2⟩ := I.cell y c' e
        exact ⟨w2, z2.sameBut hs hcc⟩
    · obtain ⟨e, n, ne, nf, d⟩ := I.pin p hp
      refine ⟨(hs.2 p.1 ?_).trans e, n, ne, nf, d⟩
      intro q
      rw [q, hoc] at e
      have q' : oc = p.2 := Option.some.inj e
      exact d w' (by rw [← q']; exact hocd)
theorem store_ok {M : Model} {A : Around} {E : Value → Shared → Prop} {i : Nat} {x : Str} {v : V} {u : Value} {Q : Unit → Shared → Prop} (I : Inv X pins σ H s) (hN : X.N.Nodup) (hi : X.N[i]? = some x) (hx : Loc X.env.scope x) (r : RelV v u)
    (h : ∀ s', Inv X pins (σ.set i (some v)) H s' → Q () s') (hf : X.fn x = true ∨ X.env.scope.names.lookup x = some .local := by first | exact .inl rfl | exact .inr rfl | assumption) : wpAny M A (storeName X.env x u) Q E s :=
  store_ok2 I hN hi hx r (fun s' I' _ => h s' I') hf
theorem Inv.call' {s' : Shared} {ch : List Addr} (I : Inv X pins σ H s) (ho : s'.os = s.os) (u : Un (frs X.stack) ch H H' s.heap s'.heap) (hok : HOk X.prog X.w H' s'.heap) (hg : AllBare s'.gens)
    (hch : ∀ b ∈ ch, (b ∈ X.ex ∨ X.s₀.heap.objs.size ≤ b) ∧ b ≠ X.env.locals ∧ (∀ x c, X.env.cells.lookup x = some c → c ≠ b) ∧ ∀ p ∈ X.pn ++ pins, p.1 ≠ b) : Inv X pins σ H' s' := by
  obtain ⟨h', g', d', t', o'⟩ := s'
  have e : o' = s.os := ho
  subst e
  exact I.call (g' := g') (t' := t') (d' := d') u hok hg hch
end

abbrev XK := Value → Option Addr → Hp → Prop
abbrev St := List (Option V)
abbrev VK := V → Hp → Prop
abbrev TE := St → Hp → VK → Prop
abbrev TT := St → Hp → (Bool → Hp → Prop) → Prop
abbrev TA := St → Hp → (List V → Hp → Prop) → Prop
structure Ends where
  nx : St → Hp → Prop
  rt : VK
  bk : St → Hp → Prop := fun _ _ => False
  ct : St → Hp → Prop := fun _ _ => False
abbrev TS := Ends → St → Hp → Prop

def EP (X : Cx) (pins : List (Addr × Obj)) (σ : St) (Q : VK) (u : Value) (s' : Shared) : Prop := ∃ v H', Inv X pins σ H' s' ∧ RelV v u ∧ Q v H'
def TP (X : Cx) (pins : List (Addr × Obj)) (σ : St) (Q : Bool → Hp → Prop) (b : Bool) (s' : Shared) : Prop := ∃ H', Inv X pins σ H' s' ∧ Q b H'
def AP (X : Cx) (pins : List (Addr × Obj)) (σ : St) (Q : List V → Hp → Prop) (us : List Value) (s' : Shared) : Prop := ∃ vs H', Inv X pins σ H' s' ∧ Vals vs us ∧ Q vs H'
def SP (X : Cx) (pins : List (Addr × Obj)) (D : Ends) (f : Flow) (s' : Shared) : Prop :=
  match f with
  | .next => ∃ σ' H', Inv X pins σ' H' s' ∧ D.nx σ' H'
  | .brk => ∃ σ' H', Inv X pins σ' H' s' ∧ D.bk σ' H'
  | .cont => ∃ σ' H', Inv X pins σ' H' s' ∧ D.ct σ' H'
  | .ret u => ∃ v σ' H', Inv X pins σ' H' s' ∧ RelV v u ∧ D.rt v H'

def PE (X : Cx) (e : Expr) (t : TE) : Prop :=
  ∀ (pins : List (Addr × Obj)) (s : Shared) (σ : St) (H : Hp) (Q : VK), Inv X pins σ H s → t σ H Q → wpAny (model X.prog X.w) X.A (eval e X.env) (EP X pins σ Q) X.xe s
def PT (X : Cx) (e : Expr) (t : TT) : Prop :=
  ∀ (pins : List (Addr × Obj)) (s : Shared) (σ : St) (H : Hp) (Q : Bool → Hp → Prop), Inv X pins σ H s → t σ H Q → wpAny (model X.prog X.w) X.A (isTrue e X.env (eval e X.env)) (TP X pins σ Q) X.xe s
def PW (X : Cx) (e : Expr) (t : TT) : Prop :=
  ∀ (whole : Sem Value) (pins : List (Addr × Obj)) (s : Shared) (σ : St) (H : Hp) (Q : Bool → Hp → Prop), Inv X pins σ H s → t σ H Q → wpAny (model X.prog X.w) X.A (isTrue e X.env whole) (TP X pins σ Q) X.xe s
theorem PW.pt {X : Cx} {e : Expr} {t : TT} (h : PW X e t) : PT X e t := h _
def PA (X : Cx) (es : List Expr) (t : TA) : Prop :=
  ∀ (pos : Pos) (pins : List (Addr × Obj)) (s : Shared) (σ : St) (H : Hp) (Q : List V → Hp → Prop), Inv X pins σ H s → t σ H Q → wpAny (model X.prog X.w) X.A (spliced (backTo pos (starEach es X.env))) (AP X pins σ Q) X.xe s
def PS (X : Cx) (st : Stmt) (t : TS) : Prop :=
  ∀ (pins : List (Addr × Obj)) (s : Shared) (σ : St) (H : Hp) (D : Ends), Inv X pins σ H s → t D σ H → wpAny (model X.prog X.w) X.A (exec st X.env) (SP X pins D) X.xe s
def PSs (X : Cx) (st : List Stmt) (t : TS) : Prop :=
  ∀ (pins : List (Addr × Obj)) (s : Shared) (σ : St) (H : Hp) (D : Ends), Inv X pins σ H s → t D σ H → wpAny (model X.prog X.w) X.A (execs st X.env) (SP X pins D) X.xe s
theorem thn {α : Type} {t : Sem α} {Q Q' : α → Shared → Prop} {M : Model} {A : Around} {E : Value → Shared → Prop} {s : Shared} (h : wpAny M A t Q E s) (hQ : ∀ a s, Q a s → Q' a s) : wpAny M A t Q' E s := wpAny_mono h hQ fun _ _ x => x
end L2

namespace L2
open PySem PySem.Spec PyProof.Rows
section
variable {X : Cx}

def tVar (i : Nat) : TE := fun σ H Q => ∃ v, σ[i]? = some (some v) ∧ Q v H
def tC (v : V) : TE := fun _ H Q => Q v H
theorem pe_var {i : Nat} {x : Str} {pos : Pos} (hN : X.N[i]? = some x) (hv : Vis X.env.scope x) (hd : (x == ("__debug__" : Str)) = false := by decide) (hcd : (x == ("__classdict__" : Str)) = false := by decide) : PE X (.Name x pos) (tVar i) := by
  intro pins s σ H Q I h
  obtain ⟨v, e, h⟩ := h
  obtain ⟨m, hn, hl⟩ := I.loc
  obtain ⟨u, r, l⟩ := hl i x v hN e hv
  have fin : EP X pins σ Q u s := ⟨v, H, I, r, h⟩
  rcases l with ⟨hk, hm⟩ | ⟨hk, c, hc, hcell⟩
  · exact wpAny_Name (wpAny_loadName_local I.ok.kind hk hn hm fin) hd
  · rcases hk with hk | hk
    · exact wpAny_Name (wpAny_loadName_cell I.ok.kind hk hc hcell fin) hd
    · exact wpAny_Name (wpAny_loadName_free I.ok.kind hk hc hcell fin hcd) hd
theorem pe_int {i j pos} : PE X (.Constant (.int i) j pos) (tC (.int i)) := fun _ _ _ H _ I h => wpAny_Constant_int ⟨.int i, H, I.tok _, ⟨_, rfl⟩, h⟩
theorem pe_bl {b j pos} : PE X (.Constant (.bool b) j pos) (tC (.bl b)) := fun _ _ _ H _ I h => Constant_bool ⟨.bl b, H, I, rfl, h⟩
theorem pe_str {x j pos} : PE X (.Constant (.str x) j pos) (tC (.str x)) := fun _ _ _ H _ I h => Calls.Constant_str ⟨.str x, H, I.tok _, ⟨_, rfl⟩, h⟩

def Gl (X : Cx) (x : Str) : Prop := X.env.kindOf x = some .globalImplicit
theorem ld_glob {E : Value → Shared → Prop} {pins : List (Addr × Obj)} {s : Shared} {σ : St} {H : Hp} {x : Str} {u : Value} {pos : Pos} {Q : Value → Shared → Prop} (I : Inv X pins σ H s) (hg : Gl X x) (hm : X.mg x = some u) (h : Q u s)
    (hd : (x == ("__debug__" : Str)) = false := by decide) : wpAny (model X.prog X.w) X.A (eval (.Name x pos) X.env) Q E s :=
  Calls.Name_function_global I.ok.kind hg (Calls.loadGlobal_global (by rw [I.ok.glob]; exact I.mod.glob.keeps I.bk) hm h) hd
theorem ld_blt {E : Value → Shared → Prop} {pins : List (Addr × Obj)} {s : Shared} {σ : St} {H : Hp} {x : Str} {u : Value} {pos : Pos} {Q : Value → Shared → Prop} (I : Inv X pins σ H s) (hg : Gl X x) (hm : X.mg x = none) (hv : bootBuiltins x = some u) (h : Q u s)
    (hn : x ≠ "__name__" := by decide) (hd : (x == ("__debug__" : Str)) = false := by decide) : wpAny (model X.prog X.w) X.A (eval (.Name x pos) X.env) Q E s := by
  obtain ⟨mb, h1, h2⟩ := I.mod.blt
  exact Calls.Name_function_global I.ok.kind hg (Calls.loadGlobal_builtin (by rw [I.ok.glob]; exact I.mod.glob.keeps I.bk) hm (by rw [I.ok.blt]; exact h1.keeps I.bk) ((h2 x hn).trans hv) h) hd
theorem pe_glob {x : Str} {v : V} {u : Value} {pos : Pos} (hg : Gl X x) (hm : X.mg x = some u) (r : RelV v u) (hd : (x == ("__debug__" : Str)) = false := by decide) : PE X (.Name x pos) (tC v) :=
  fun _ _ _ H _ I h => ld_glob I hg hm ⟨v, H, I, r, h⟩ hd
theorem pe_bltn {x : Str} {v : V} {u : Value} {pos : Pos} (hg : Gl X x) (hm : X.mg x = none) (hv : bootBuiltins x = some u) (r : RelV v u) (hn : x ≠ "__name__" := by decide) (hd : (x == ("__debug__" : Str)) = false := by decide) : PE X (.Name x pos) (tC v) :=
  fun _ _ _ H _ I h => ld_blt I hg hm hv ⟨v, H, I, r, h⟩ hn hd

variable {a b : Expr} {ta tb : TE} {pos : Pos}
def tB (t : TE) : TT := fun σ H Q => t σ H fun x H1 => ∃ c, x = .bl c ∧ Q c H1
theorem pt_val {e : Expr} {t : TE} (h : PE X e t) (he : ∀ whole, isTrue e X.env whole = (do let v ← whole; standAt e.pos; holding [v] (truthy v)) := by intro _; rfl) : PT X e (tB t) := by
  intro pins s σ H Q I hw
  refine isTrue_plain (thn (h pins s σ H _ I hw) fun v s1 ⟨x, H1, I1, r1, q1⟩ => ?_) (he _)
  obtain ⟨d, rfl, q⟩ := q1
  cases r1
  exact wpAny_truthy_bool ⟨H1, I1, q⟩

variable {tA tB' : TT} {rest : List Expr}
def tAnd (t u : TT) : TT := fun σ H Q => t σ H fun c H1 => if c = true then u σ H1 Q else Q false H1
def tOr (t u : TT) : TT := fun σ H Q => t σ H fun c H1 => if c = true then Q true H1 else u σ H1 Q
def tNot (t : TT) : TT := fun σ H Q => t σ H fun c H1 => Q (!c) H1
theorem pw_and1 (ha : PT X a tA) : PW X (.BoolOp .And [a] pos) tA := by
  intro wh pins s σ H Q I h
  refine isTrue_and (thn (ha pins s σ H Q I h) fun c s1 e => ?_)
  cases c with
  | true => exact isTrue_and_nil e
  | false => exact e
theorem pw_or1 (ha : PT X a tA) : PW X (.BoolOp .Or [a] pos) tA := by
  intro wh pins s σ H Q I h
  refine isTrue_or (thn (ha pins s σ H Q I h) fun c s1 e => ?_)
  cases c with
  | false => exact isTrue_or_nil e
  | true => exact e
theorem pw_and (ha : PT X a tA) (hb : PW X (.BoolOp .And (b :: rest) pos) tB') : PW X (.BoolOp .And (a :: b :: rest) pos) (tAnd tA tB') := by
  intro wh pins s σ H Q I h
  refine isTrue_and (thn (ha pins s σ H _ I h) fun c s1 ⟨H1, I1, q1⟩ => ?_)
  cases c with
  | true => exact hb wh pins s1 σ H1 Q I1 q1
  | false => exact ⟨H1, I1, q1⟩
theorem pw_or (ha : PT X a tA) (hb : PW X (.BoolOp .Or (b :: rest) pos) tB') : PW X (.BoolOp .Or (a :: b :: rest) pos) (tOr tA tB') := by
  intro wh pins s σ H Q I h
  refine isTrue_or (thn (ha pins s σ H _ I h) fun c s1 ⟨H1, I1, q1⟩ => ?_)
  cases c with
  | true => exact ⟨H1, I1, q1⟩
  | false => exact hb wh pins s1 σ H1 Q I1 q1
theorem pt_not (ha : PT X a tA) : PT X (.UnaryOp .Not a pos) (tNot tA) := by
  intro pins s σ H Q I h
  exact isTrue_not (ha pins s σ H (fun c H1 => Q (!c) H1) I h)
def tAndV (ta tb : TE) : TE := fun σ H Q => ta σ H fun x H1 => ∃ c, x = .bl c ∧ if c = true then tb σ H1 Q else Q (.bl false) H1
def tOrV (ta tb : TE) : TE := fun σ H Q => ta σ H fun x H1 => ∃ c, x = .bl c ∧ if c = true then Q (.bl true) H1 else tb σ H1 Q
def tNotV (ta : TE) : TE := fun σ H Q => ta σ H fun x H1 => ∃ c, x = .bl c ∧ Q (.bl (!c)) H1
def tIf (t : TT) (ta tb : TE) : TE := fun σ H Q => t σ H fun c H1 => if c = true then ta σ H1 Q else tb σ H1 Q
end
end L2

namespace L2
open PySem PySem.Spec PyProof.Rows

def SqL (K : PySem.W.Frag) (H : Hp) (a : Addr) (xs : List V) : Prop :=
  Rd H a (.lst xs) ∨
    ∃ (o : Obj) (its : Array Value) (n : Nat), K.lookup a = some o ∧ o.cls = .type "list" ∧ o.dict = none ∧ o.data = .seq its n ∧ its.size ≤ sizeLine ∧ Vals xs its.toList
def SqT (K : PySem.W.Frag) (H : Hp) (a : Addr) (xs : List V) : Prop :=
  Rd H a (.tup xs) ∨
    ∃ (o : Obj) (its : Array Value) (n : Nat), K.lookup a = some o ∧ o.cls = .type "tuple" ∧ o.data = .seq its n ∧ its.size ≤ sizeLine ∧ Vals xs its.toList
def absV : Value → Option V
  | .none => some .non
  | .bool b => some (.bl b)
  | .int i _ => some (.int i)
  | .str x _ => some (.str x)
  | .bytes b _ => some (.byt b)
  | .float b _ => some (.flt b)
  | .ref a => some (.ref a)
  | .type n => some (.ty n)
  | _ => none
theorem RelV.abs {x : V} {u : Value} (r : RelV x u) : absV u = some x := by
  cases x with
  | non => cases r; rfl
  | bl _ => cases r; rfl
  | int _ => obtain ⟨t, rfl⟩ := r; rfl
  | str _ => obtain ⟨t, rfl⟩ := r; rfl
  | byt _ => obtain ⟨t, rfl⟩ := r; rfl
  | flt _ => obtain ⟨t, rfl⟩ := r; rfl
  | ref _ => cases r; rfl
  | ty _ => cases r; rfl
theorem RelV.inj {x y : V} {u : Value} (r : RelV x u) (q : RelV y u) : x = y := Option.some.inj (r.abs.symm.trans q.abs)
theorem Vals.inj : ∀ {xs ys : List V} {us : List Value}, Vals xs us → Vals ys us → xs = ys
  | _, _, _, .nil, .nil => rfl
  | _, _, _, .cons r t, .cons r' t' => by rw [r.inj r', Vals.inj t t']
section
variable {X : Cx} {pins : List (Addr × Obj)} {σ : St} {H : Hp} {s : Shared} {a : Addr} {xs ys : List V}
theorem SqL.of {K : PySem.W.Frag} (h : H a = some (.lst xs)) : SqL K H a xs := .inl (.inl h)
theorem SqT.of {K : PySem.W.Frag} (h : H a = some (.tup xs)) : SqT K H a xs := .inl (.inl h)
theorem Inv.list (I : Inv X pins σ H s) (h : SqL X.K H a xs) : ∃ its : List Value, Vals xs its ∧ PlainL s.heap a its.toArray ∧ xs.length ≤ sizeLine := by
  rcases h with h | ⟨o, its, n, hk, hc, hd, hs, hz, r⟩
  · obtain ⟨z, its, n, r, e⟩ := h.ok I.hok
    exact ⟨its, r, ⟨_, n, e, rfl, rfl, rfl⟩, z⟩
  · refine ⟨its.toList, r, ⟨o, n, I.kIn a o hk, hc, hd, by simpa using hs⟩, ?_⟩
    have e := r.length
    simp only [Array.length_toList] at e
    omega
theorem Inv.tuple (I : Inv X pins σ H s) (h : SqT X.K H a xs) : ∃ its : List Value, Vals xs its ∧ IsTup s.heap a its.toArray ∧ xs.length ≤ sizeLine := by
  rcases h with h | ⟨o, its, n, hk, hc, hs, hz, r⟩
  · obtain ⟨z, its, r, p⟩ := h.ok I.hok
    exact ⟨its, r, p, z⟩
  · refine ⟨its.toList, r, ⟨o, I.kIn a o hk, hc, n, by simpa using hs⟩, ?_⟩
    have e := r.length
    simp only [Array.length_toList] at e
    omega
theorem Inv.list_inj (I : Inv X pins σ H s) (h : SqL X.K H a xs) (h' : SqL X.K H a ys) : xs = ys := by
  obtain ⟨its, r, ⟨o, n, e, _, _, d⟩, _⟩ := I.list h
  obtain ⟨its', r', ⟨o', n', e', _, _, d'⟩, _⟩ := I.list h'
  rw [e] at e'; cases e'
  rw [d] at d'
  injection d' with d1 _
  have : its = its' := by simpa using congrArg Array.toList d1
  subst this
  exact r.inj r'
end

abbrev Cx.wish (X : Cx) (E : Value → Shared → Prop) : Cx := { X with xe := E }
abbrev Cx.nox (X : Cx) : Cx := X.wish fun _ _ => False
theorem Cx.Ok.wish {X : Cx} (ok : X.Ok) (E : Value → Shared → Prop) : (X.wish E).Ok :=
  ⟨ok.mod, ok.kind, ok.glob, ok.blt, ok.above, ok.inj, ok.has, ok.cab, ok.hd, ok.frames, ok.stk, ok.exf, ok.bs, ok.bsz, ok.noex, ok.exfs, ok.funs, ok.frf⟩
theorem Cx.Ok.unwish {X : Cx} {E : Value → Shared → Prop} (ok : (X.wish E).Ok) : X.Ok :=
  ⟨ok.mod, ok.kind, ok.glob, ok.blt, ok.above, ok.inj, ok.has, ok.cab, ok.hd, ok.frames, ok.stk, ok.exf, ok.bs, ok.bsz, ok.noex, ok.exfs, ok.funs, ok.frf⟩
section
variable {X : Cx} {pins : List (Addr × Obj)} {σ : St} {H : Hp} {s : Shared} {E : Value → Shared → Prop}
theorem Inv.wish (I : Inv X pins σ H s) (E : Value → Shared → Prop) : Inv (X.wish E) pins σ H s := ⟨I.ok.wish E, I.os, I.bare, I.base, I.loc, I.cell, I.free, I.freeC, I.pin, I.hok, I.len⟩
theorem Inv.unwish (I : Inv (X.wish E) pins σ H s) : Inv X pins σ H s := ⟨I.ok.unwish, I.os, I.bare, I.base, I.loc, I.cell, I.free, I.freeC, I.pin, I.hok, I.len⟩
theorem SP.unwish {D : Ends} {f : Flow} {s' : Shared} (h : SP (X.wish E) pins D f s') : SP X pins D f s' := by
  cases f with
  | next => obtain ⟨σ', H', I, q⟩ := h; exact ⟨σ', H', I.unwish, q⟩
  | brk => obtain ⟨σ', H', I, q⟩ := h; exact ⟨σ', H', I.unwish, q⟩
  | cont => obtain ⟨σ', H', I, q⟩ := h; exact ⟨σ', H', I.unwish, q⟩
  | ret u => obtain ⟨v, σ', H', I, r, q⟩ := h; exact ⟨v, σ', H', I.unwish, r, q⟩
theorem PE.nox {e : Expr} {t : TE} (h : PE X.nox e t) : PE X e t := fun pins s σ H Q I hw =>
  wpAny_mono (h pins s σ H Q (I.wish _) hw) (fun _ _ ⟨v, H', I', r, q⟩ => ⟨v, H', I'.unwish, r, q⟩) fun _ _ z => False.elim z
theorem PT.nox {e : Expr} {t : TT} (h : PT X.nox e t) : PT X e t := fun pins s σ H Q I hw =>
  wpAny_mono (h pins s σ H Q (I.wish _) hw) (fun _ _ ⟨H', I', q⟩ => ⟨H', I'.unwish, q⟩) fun _ _ z => False.elim z
theorem PSs.nox {st : List Stmt} {t : TS} (h : PSs X.nox st t) : PSs X st t := fun pins s σ H D I hw =>
  wpAny_mono (h pins s σ H D (I.wish _) hw) (fun _ _ q => q.unwish) fun _ _ z => False.elim z
end

section
variable {X : Cx} {st : Stmt} {rest : List Stmt} {t u : TS} {e : Expr} {te : TE} {pos : Pos}
def tNext : TS := fun D σ H => D.nx σ H
def tSeq (t u : TS) : TS := fun D σ H => t { D with nx := u D } σ H
theorem pss_nil : PSs X [] tNext := fun _ _ σ H _ I h => wpAny_execs_nil ⟨σ, H, I, h⟩
theorem pss_cons (h1 : PS X st t) (h2 : PSs X rest u) : PSs X (st :: rest) (tSeq t u) := by
  intro pins s σ H D I h
  refine wpAny_execs_cons (thn (h1 pins s σ H { D with nx := u D } I h) fun f s1 q => ?_)
  cases f with
  | next =>
    obtain ⟨σ', H', I', q⟩ := q
    exact h2 pins s1 σ' H' D I' q
  | ret v => exact q
  | brk => exact q
  | cont => exact q
theorem pss_one (h1 : PS X st t) : PSs X [st] t := by
  intro pins s σ H D I h
  refine wpAny_execs_cons (thn (h1 pins s σ H D I h) fun f s1 q => ?_)
  cases f with
  | next => exact wpAny_execs_nil q
  | ret v => exact q
  | brk => exact q
  | cont => exact q
def tBreak : TS := fun D σ H => D.bk σ H
def tCont : TS := fun D σ H => D.ct σ H
theorem Inv.quiet {pins : List (Addr × Obj)} {σ : St} {H : Hp} {s : Shared} (I : Inv X pins σ H s) : interactive X.env = false := by simp [interactive, I.ok.kind]
def tDrop (te : TE) : TS := fun D σ H => te σ H fun _ H1 => D.nx σ H1
theorem ps_expr (he : PE X e te) (hs : swapsWith e none pos.line X.env = pure false := by rfl) : PS X (.Expr e pos) (tDrop te) := by
  intro pins s σ H D I h
  exact wpAny_Expr_any (thn (he pins s σ H _ I h) fun v s1 ⟨x, H1, I1, r1, q1⟩ => ⟨σ, H1, I1, q1⟩) I.quiet hs
def tRet (te : TE) : TS := fun D σ H => te σ H D.rt
theorem ps_ret (he : PE X e te) : PS X (.Return (some e) pos) (tRet te) := by
  intro pins s σ H D I h
  exact wpAny_Return_some (thn (he pins s σ H _ I h) fun v s1 ⟨x, H1, I1, r1, q1⟩ => ⟨x, σ, H1, I1, r1, q1⟩)
def tRetN : TS := fun D _ H => D.rt .non H
def tIfS (c : TT) (t u : TS) : TS := fun D σ H => c σ H fun b H1 => if b = true then t D σ H1 else u D σ H1
theorem ps_if {c : Expr} {a b : List Stmt} {tc : TT} (hc : PT X c tc) (ha : PSs X a t) (hb : PSs X b u) : PS X (.If c a b pos) (tIfS tc t u) := by
  intro pins s σ H D I h
  refine wpAny_If (thn (hc pins s σ H _ I h) fun d s1 ⟨H1, I1, q1⟩ => ?_)
  cases d with
  | true => exact ha pins s1 σ H1 D I1 q1
  | false => exact hb pins s1 σ H1 D I1 q1
def tNever : TS := fun _ _ _ => False
theorem ps_never : PS X st tNever := fun _ _ _ _ _ _ h => h.elim
end

abbrev TG := V → St → Hp → (St → Hp → Prop) → Prop
abbrev TGs := List V → St → Hp → (St → Hp → Prop) → Prop
def PG (X : Cx) (target : Expr) (t : TG) : Prop :=
  ∀ (pins : List (Addr × Obj)) (s : Shared) (σ : St) (H : Hp) (v : V) (u : Value) (Q : St → Hp → Prop), Inv X pins σ H s → RelV v u → t v σ H Q →
    wpAny (model X.prog X.w) X.A (assign target X.env u) (fun _ s' => ∃ σ' H', Inv X pins σ' H' s' ∧ Q σ' H') X.xe s
def PGs (X : Cx) (ts : List Expr) (t : TGs) : Prop :=
  ∀ (pins : List (Addr × Obj)) (s : Shared) (σ : St) (H : Hp) (vs : List V) (us : List Value) (Q : St → Hp → Prop), Inv X pins σ H s → Vals vs us → t vs σ H Q →
    wpAny (model X.prog X.w) X.A (assignInOrder ((assignEach ts X.env).map (·.2)) us) (fun _ s' => ∃ σ' H', Inv X pins σ' H' s' ∧ Q σ' H') X.xe s
abbrev TSet := V → V → V → Hp → (Hp → Prop) → Prop
abbrev TIp := V → V → Hp → VK → Prop
section
variable {X : Cx} {pos : Pos}
def gName (i : Nat) : TG := fun v σ H Q => Q (σ.set i (some v)) H
theorem pg_name {i : Nat} {x : Str} (hN : X.N.Nodup) (hi : X.N[i]? = some x) (hx : Loc X.env.scope x) (hf : X.fn x = true ∨ X.env.scope.names.lookup x = some .local := by first | exact .inl rfl | exact .inr rfl | assumption) : PG X (.Name x pos) (gName i) := by
  intro pins s σ H v u Q I r h
  exact wpAny_assign_Name (store_ok I hN hi hx r (fun s' I' => ⟨_, H, I', h⟩) hf)
def gNil : TGs := fun vs σ H Q => vs = [] ∧ Q σ H
def gCons (t : TG) (u : TGs) : TGs := fun vs σ H Q => ∃ v r, vs = v :: r ∧ t v σ H fun σ' H' => u r σ' H' Q
theorem pgs_nil : PGs X [] gNil := by
  intro pins s σ H vs us Q I r h
  obtain ⟨e, h⟩ := h
  subst e
  cases r
  exact assignInOrder_nil ⟨σ, H, I, h⟩
theorem pgs_cons {e : Expr} {es : List Expr} {t : TG} {u : TGs} (h1 : PG X e t) (h2 : PGs X es u)
    (hs : (assignEach (e :: es) X.env).map (·.2) = assign e X.env :: (assignEach es X.env).map (·.2) := by rfl) : PGs X (e :: es) (gCons t u) := by
  intro pins s σ H vs us Q I r h
  obtain ⟨v, vr, e1, h⟩ := h
  subst e1
  cases r with
  | cons r rr =>
    rw [hs]
    refine assignInOrder_cons (thn (h1 pins s σ H _ _ _ I r h) fun _ s1 ⟨σ1, H1, I1, q1⟩ => ?_)
    exact h2 pins s1 σ1 H1 _ _ Q I1 rr q1
def gTup (K : PySem.W.Frag) (n : Nat) (t : TGs) : TG := fun v σ H Q => ∃ a xs, v = .ref a ∧ SqT K H a xs ∧ xs.length = n ∧ t xs σ H Q
theorem pg_tup {es : List Expr} {k : Nat} {t : TGs} {n : Nat} (hc : X.calm = true) (h : PGs X es t)
    (hn : (assignEach es X.env).length = n := by rfl) (hst : (assignEach es X.env).findIdx? (·.1) = none := by rfl) : PG X (.Tuple es k pos) (gTup X.K n t) := by
  intro pins s σ H v u Q I r hw
  obtain ⟨a, xs, e1, hq, hl, hw⟩ := hw
  subst e1
  cases r
  obtain ⟨its, rv, ht, hz⟩ := I.tuple hq
  refine assign_Tuple_tuple (I.ok.hd hc) ht (by simp [hn, ← hl, rv.length]) hst fun h' hx => ?_
  have I1 : Inv X pins σ H { s with heap := h' } := I.kept (t' := s.toks) fun b o e => hx b o (Nat.ne_of_lt (Heap.lt_size e)) e
  exact h pins _ σ H xs _ Q I1 (by simpa using rv) hw
def gSub (to ti : TE) (t : TSet) : TG := fun v σ H Q => to σ H fun o H1 => ti σ H1 fun i H2 => t o i v H2 fun H3 => Q σ H3
def tAsg (te : TE) (g : TG) : TS := fun D σ H => te σ H fun x H1 => g x σ H1 D.nx
theorem ps_set {i : Nat} {x : Str} {e : Expr} {te : TE} {pos' : Pos} (hN : X.N.Nodup) (hi : X.N[i]? = some x) (hx : Loc X.env.scope x) (he : PE X e te) (hs : swapsWith e (some (.Name x pos')) pos.line X.env = pure false := by rfl) (hf : X.fn x = true ∨ X.env.scope.names.lookup x = some .local := by first | exact .inl rfl | exact .inr rfl | assumption) :
    PS X (.Assign [.Name x pos'] e pos) (tAsg te (gName i)) := by
  intro pins s σ H D I h
  refine wpAny_Assign_Name (thn (he pins s σ H _ I h) fun v s1 ⟨y, H1, I1, r1, q1⟩ => ?_) hs
  exact store_ok I1 hN hi hx r1 (fun s2 I2 => ⟨_, H1, I2, q1⟩) hf
def tPar (i j : Nat) (ta : TA) : TS := fun D σ H => ta σ H fun vs H1 => ∃ v w, vs = [v, w] ∧ D.nx ((σ.set i (some v)).set j (some w)) H1
def tAug (i : Nat) (te : TE) (ti : TIp) : TS := fun D σ H => ∃ x, σ[i]? = some (some x) ∧ te σ H fun y H1 => ti x y H1 fun z H2 => D.nx (σ.set i (some z)) H2
def ipI (f : Int → Int → Int) : TIp := fun x y H Q => ∃ i j, x = .int i ∧ y = .int j ∧ Q (.int (f i j)) H
end

section
variable {X : Cx} {pos : Pos}
def tWhile (c : TT) (tb : TS) : TS := fun D σ H => ∃ W : Nat → St → Hp → Prop, (∃ m, W m σ H) ∧ ∀ m σ H, W m σ H →
  c σ H fun b H1 => if b = true then ∃ N : St → Hp → Prop, (∀ σ' H', N σ' H' → ∃ m', m' < m ∧ W m' σ' H') ∧ tb { D with nx := N, ct := N, bk := D.nx } σ H1 else D.nx σ H1
theorem ps_while {c : Expr} {body : List Stmt} {tc : TT} {tb : TS} (hp : PassesOwn (model X.prog X.w) X.A X.env X.xe) (hc : PT X c tc) (hb : PSs X body tb) : PS X (.While c body [] pos) (tWhile tc tb) := by
  intro pins s σ H D I h
  obtain ⟨W, ⟨m0, w0⟩, turn⟩ := h
  refine wpAny_While (codeAny_whileLoop (fun n s' => ∃ σ' H', Inv X pins σ' H' s' ∧ W n σ' H') ?_ m0 ⟨σ, H, I, w0⟩)
  rintro n s1 ⟨σ1, H1, I1, w1⟩
  refine wpAny_passesOwn hp (thn (hc pins s1 σ1 H1 _ I1 (turn n σ1 H1 w1)) fun b s2 ⟨H2, I2, q2⟩ => ?_)
  cases b with
  | true =>
    obtain ⟨N, hN, q2⟩ := q2
    rw [if_pos rfl]
    refine wpAny_passesOwn hp (thn (hb pins s2 σ1 H2 _ I2 q2) fun f s3 q3 => ?_)
    cases f with
    | next =>
      obtain ⟨σ3, H3, I3, n3⟩ := q3
      obtain ⟨m', hm, w3⟩ := hN σ3 H3 n3
      exact ⟨m', hm, σ3, H3, I3, w3⟩
    | cont =>
      obtain ⟨σ3, H3, I3, n3⟩ := q3
      obtain ⟨m', hm, w3⟩ := hN σ3 H3 n3
      exact ⟨m', hm, σ3, H3, I3, w3⟩
    | brk => exact q3
    | ret v => exact q3
  | false =>
    rw [if_neg Bool.false_ne_true]
    exact wpAny_execs_nil ⟨σ1, H2, I2, q2⟩
end

structure It where
  go : Nat → Hp → Prop
  yld : Nat → Hp → V → Hp → Prop
  stop : Nat → Hp → Prop
def FpOk (X : Cx) (pins : List (Addr × Obj)) (H : Hp) (b : Addr) : Prop :=
  H b = none ∧ b ≠ X.env.locals ∧ b ∉ X.fs ∧ (b ∈ X.ex ∨ X.s₀.heap.objs.size ≤ b) ∧ (∀ x c, X.env.cells.lookup x = some c → c ≠ b) ∧ ∀ p ∈ X.pn ++ pins, p.1 ≠ b
theorem Inv.fpOk {X : Cx} {pins : List (Addr × Obj)} {σ : St} {H H' : Hp} {s : Shared} {b : Addr} (I : Inv X pins σ H s) (hb : s.heap.objs.size ≤ b) (hn : H' b = none) : FpOk X pins H' b := by
  refine ⟨hn, Nat.ne_of_gt (Nat.lt_of_lt_of_le I.lt hb), I.nofs hb, .inr (Nat.le_trans I.sz hb), fun x c e z => ?_, fun p hp z => ?_⟩
  · obtain ⟨v, q⟩ := I.cell x c e
    exact absurd (Nat.lt_of_lt_of_le q.lt (by rw [z]; exact hb)) (Nat.lt_irrefl _)
  · exact absurd (Nat.lt_of_lt_of_le (Heap.lt_size (I.pin p hp).1) (by rw [z]; exact hb)) (Nat.lt_irrefl _)
structure Turn (P : Program) (w : World) (K : PySem.W.Frag) (tg : Expr) (J : It) (fp : List Addr) (it : Addr) (tn : Nat → Heap → Prop) : Prop where
  mem : it ∈ fp
  obj : ∀ i h, tn i h → ∀ b ∈ fp, ∃ o, h.get? b = some o ∧ ∀ v, o.data ≠ .cell v
  keep : ∀ i h h', tn i h → (∀ b ∈ fp, ∀ o, h.get? b = some o → h'.get? b = some o) → tn i h'
  item : ∀ (X : Cx), X.prog = P → X.w = w → X.K = K → X.calm = true → ∀ (i : Nat) (pins : List (Addr × Obj)) (s : Shared) (σ : St) (H : Hp) (E : Value → Shared → Prop), Inv X pins σ H s → (∀ b ∈ fp, FpOk X pins H b) → tn i s.heap → J.go i H →
    wpAny (model P w) X.A (pyNext (.ref it)) (fun r s1 => ∃ u, r = some u ∧
      wpAny (model P w) X.A (letOwnedTupleGo tg (.ref it) u) (fun _ s2 => ∃ x H', Inv X pins σ H' s2 ∧ RelV x u ∧ J.yld i H x H' ∧ tn (i + 1) s2.heap ∧ ∀ b ∈ fp, H' b = none) E s1) E s
  done : ∀ (X : Cx), X.prog = P → X.w = w → X.K = K → X.calm = true → ∀ (i : Nat) (pins : List (Addr × Obj)) (s : Shared) (σ : St) (H : Hp) (E : Value → Shared → Prop), Inv X pins σ H s → (∀ b ∈ fp, FpOk X pins H b) → tn i s.heap → J.stop i H →
    wpAny (model P w) X.A (pyNext (.ref it)) (fun r s1 => r = none ∧ Inv X pins σ H s1) E s
  self : ∀ (A : Around) (i : Nat) (s : Shared) (Q : Value → Shared → Prop) (E : Value → Shared → Prop), tn i s.heap → Q (.ref it) s → wpAny (model P w) A (pyIter (.ref it)) Q E s
abbrev TI := St → Hp → (It → Hp → Prop) → Prop
def PIE (X : Cx) (pins : List (Addr × Obj)) (σ : St) (tg : Expr) (R : It → Hp → Prop) (itv : Value) (s2 : Shared) : Prop :=
  ∃ (it : Addr) (fp : List Addr) (tn : Nat → Heap → Prop) (J : It) (H' : Hp), itv = .ref it ∧ Inv X pins σ H' s2 ∧ Turn X.prog X.w X.K tg J fp it tn ∧ tn 0 s2.heap ∧ (∀ b ∈ fp, FpOk X pins H' b) ∧ R J H'
def PI (X : Cx) (tg iter : Expr) (wi : TI) : Prop :=
  ∀ (pins : List (Addr × Obj)) (s : Shared) (σ : St) (H : Hp) (R : It → Hp → Prop), Inv X pins σ H s → wi σ H R →
    wpAny (model X.prog X.w) X.A (eval iter X.env) (fun v s1 => wpAny (model X.prog X.w) X.A (pyIter v) (PIE X pins σ tg R) X.xe s1) X.xe s

theorem go_of {M : Model} {A : Around} {E : Value → Shared → Prop} {s : Shared} {tg : Expr} {it : Addr} {u : Value} {o : Obj} {n : String} {vs : Array Value} {Q : Unit → Shared → Prop} (ho : s.heap.get? it = some o) (hc : o.cls = .type n) (hd : o.data = .fields vs)
    (hn : ["enumerate", "zip", "dict_itemiterator", "dict_reverseitemiterator", "odict_iterator", "itertools.zip_longest", "itertools.pairwise"].contains n = false) (hQ : Q () s) : wpAny M A (letOwnedTupleGo tg (.ref it) u) Q E s := by
  unfold letOwnedTupleGo
  cases tg <;> first
    | exact wpAny_pure hQ
    | (cases u <;> first
        | exact wpAny_pure hQ
        | (refine wpAny_bind (wpAny_load ho ?_)
           rw [hc, hd]
           show wpAny M A (if (["enumerate", "zip", "dict_itemiterator", "dict_reverseitemiterator", "odict_iterator", "itertools.zip_longest", "itertools.pairwise"].contains n && vs[0]? == some (rawInt _)) = true then _ else _) Q E s
           rw [if_neg (by intro h; rw [hn, Bool.false_and] at h; cases h)]
           exact wpAny_pure hQ))

def Itl (K : PySem.W.Frag) (a : Addr) : It :=
  ⟨fun i H => ∃ xs x, SqL K H a xs ∧ xs[i]? = some x, fun i H x H' => H' = H ∧ ∀ xs, SqL K H a xs → xs[i]? = some x, fun i H => ∃ xs, SqL K H a xs ∧ xs.length ≤ i⟩
def Itt (K : PySem.W.Frag) (a : Addr) : It :=
  ⟨fun i H => ∃ xs x, SqT K H a xs ∧ xs[i]? = some x, fun i H x H' => H' = H ∧ ∀ xs, SqT K H a xs → xs[i]? = some x, fun i H => ∃ xs, SqT K H a xs ∧ xs.length ≤ i⟩
def Itr (lo : Int) (n : Nat) : It := ⟨fun i _ => i < n, fun i H x H' => H' = H ∧ x = .int (lo + i), fun i _ => n ≤ i⟩
theorem turn_list {P : Program} {w : World} {K : PySem.W.Frag} {tg : Expr} (a it : Addr) : Turn P w K tg (Itl K a) [it] it (fun i h => h.IsListIter it a i) where
  mem := by simp
  obj := fun i h st b hb => by
    have e : b = it := by simpa using hb
    subst e
    obtain ⟨o, e, c, d⟩ := st
    exact ⟨o, e, fun v z => by rw [d] at z; cases z⟩
  keep := fun i h h' st k => st.at fun o e => k it (by simp) o e
  item := by
    intro X hP hw hK hc i pins s σ H E I hf st hg
    subst hP hw hK
    obtain ⟨xs, x, hq, hx⟩ := hg
    obtain ⟨its, rv, p, hz⟩ := I.list hq
    obtain ⟨u, hu, ru⟩ := rv.get hx
    obtain ⟨f0, f1, f2, f3, f4, f5⟩ := hf it (by simp)
    refine wpAny_pyNext_list_item st p.isList (x := u) (by simpa using hu) fun h' st' sb => ?_
    have I1 : Inv X pins σ H { s with heap := h' } := I.turned (t' := s.toks) (fun b o hb e => (sb.2 b hb).trans e) f0 f1 f3 f4 f5
    obtain ⟨o, e, c, d⟩ := id st'
    exact ⟨u, rfl, go_of (s := { s with heap := h' }) e c d (by decide) ⟨x, H, I1, ru, ⟨rfl, fun ys hy => by rw [I.list_inj hy hq]; exact hx⟩, st', fun b hb => (hf b hb).1⟩⟩
  done := by
    intro X hP hw hK hc i pins s σ H E I hf st hg
    subst hP hw hK
    obtain ⟨xs, hq, hx⟩ := hg
    obtain ⟨its, rv, p, hz⟩ := I.list hq
    obtain ⟨f0, f1, f2, f3, f4, f5⟩ := hf it (by simp)
    have hl := rv.length
    exact wpAny_pyNext_list_end (I.ok.hd hc) st p.isList (by simp; omega) fun h' eb => ⟨rfl, I.turned (t' := s.toks) (fun b o hb e => eb b o hb e) f0 f1 f3 f4 f5⟩
  self := fun _ _ _ _ _ st h => wpAny_pyIter_listiter st h
end L2

namespace L2
open PySem PySem.Spec PyProof.Rows
section
variable {X : Cx} {tg : Expr}
def iList (K : PySem.W.Frag) (tl : TE) : TI := fun σ H R => tl σ H fun x H1 => ∃ a, x = .ref a ∧ (∃ xs, SqL K H1 a xs) ∧ R (Itl K a) H1
def iTup (K : PySem.W.Frag) (tl : TE) : TI := fun σ H R => tl σ H fun x H1 => ∃ a, x = .ref a ∧ (∃ xs, SqT K H1 a xs) ∧ R (Itt K a) H1
theorem pi_list {l : Expr} {tl : TE} (hl : PE X l tl) : PI X tg l (iList X.K tl) := by
  intro pins s σ H R I h
  refine thn (hl pins s σ H _ I h) fun v s1 ⟨x, H1, I1, r1, q1⟩ => ?_
  obtain ⟨a, e, ⟨xs, hq⟩, q⟩ := q1
  subst e
  cases r1
  obtain ⟨its, rv, p, hz⟩ := I1.list hq
  refine wpAny_pyIter_list p.isList ?_
  refine ⟨s1.heap.objs.size, [s1.heap.objs.size], _, _, H1, rfl, I1.kept (t' := s1.toks) fun b o e => Heap.get?_push_of_some _ e, turn_list a _, ⟨_, Heap.get?_push_size _ rfl, rfl, rfl⟩, fun b hb => ?_, q⟩
  have e : b = s1.heap.objs.size := by simpa using hb
  subst e
  exact I1.fpOk (Nat.le_refl _) (I1.hok.fresh (Nat.le_refl _))
def iRng1 (ta : TA) : TI := fun σ H R => ta σ H fun vs H1 => ∃ j : Int, vs = [.int j] ∧ -(2 ^ 62) ≤ j ∧ j < 2 ^ 62 ∧ R (Itr 0 j.toNat) H1
def iRng2 (ta : TA) : TI := fun σ H R => ta σ H fun vs H1 => ∃ i j : Int, vs = [.int i, .int j] ∧ (-(2 ^ 62) ≤ i ∧ i < 2 ^ 62 ∧ -(2 ^ 62) ≤ j ∧ j < 2 ^ 62) ∧ R (Itr i (j - i).toNat) H1
def tFor (wi : TI) (g : TG) (tb : TS) : TS := fun D σ H => wi σ H fun J H1 => ∃ W : Nat → Nat → St → Hp → Prop, (∃ m, W 0 m σ H1) ∧ ∀ i m σ H, W i m σ H →
  (J.stop i H ∧ D.nx σ H) ∨ (J.go i H ∧ ∃ N : St → Hp → Prop, (∀ σ' H', N σ' H' → ∃ m', m' < m ∧ W (i + 1) m' σ' H') ∧ ∀ x H', J.yld i H x H' → g x σ H' fun σ2 H2 => tb { D with nx := N, ct := N, bk := D.nx } σ2 H2)
def pinsAt (fp : List Addr) (h : Heap) : List (Addr × Obj) := fp.filterMap fun b => (h.get? b).map fun o => (b, o)
theorem mem_pinsAt {fp : List Addr} {h : Heap} {b : Addr} {o : Obj} (hb : b ∈ fp) (e : h.get? b = some o) : (b, o) ∈ pinsAt fp h := List.mem_filterMap.mpr ⟨b, hb, by rw [e]; rfl⟩
theorem of_pinsAt {fp : List Addr} {h : Heap} {p : Addr × Obj} (hp : p ∈ pinsAt fp h) : p.1 ∈ fp ∧ h.get? p.1 = some p.2 := by
  obtain ⟨b, hb, e⟩ := List.mem_filterMap.mp hp
  cases q : h.get? b with
  | none => rw [q] at e; cases e
  | some o =>
    rw [q] at e
    have e' : (b, o) = p := Option.some.inj e
    subst e'
    exact ⟨hb, q⟩
theorem Inv.pinned {pins : List (Addr × Obj)} {σ : St} {H : Hp} {s : Shared} {fp : List Addr} (I : Inv X pins σ H s) (hf : ∀ b ∈ fp, FpOk X pins H b) (ho : ∀ b ∈ fp, ∃ o, s.heap.get? b = some o ∧ ∀ v, o.data ≠ .cell v) : Inv X (pins ++ pinsAt fp s.heap) σ H s :=
  I.pins_of fun p hp => (List.mem_append.mp hp).elim (fun z => I.pin p (List.mem_append_right _ z)) fun z => by
    obtain ⟨hb, e⟩ := of_pinsAt z
    obtain ⟨f0, f1, f2, _⟩ := hf p.1 hb
    obtain ⟨o, e', d⟩ := ho p.1 hb
    rw [e] at e'; cases e'
    exact ⟨e, f0, f1, f2, d⟩
theorem Inv.unpinned {pins pl : List (Addr × Obj)} {σ : St} {H : Hp} {s : Shared} (I : Inv X (pins ++ pl) σ H s) : Inv X pins σ H s := I.pins_of fun p hp => I.pin p (List.mem_append_right _ (List.mem_append_left _ hp))
theorem ps_for {iter : Expr} {body : List Stmt} {wi : TI} {g : TG} {tb : TS} {pos : Pos} (hp : PassesOwn (model X.prog X.w) X.A X.env X.xe) (hc : X.calm = true) (hi : PI X tg iter wi) (hg : PG X tg g) (hb : PSs X body tb)
    (hs : ∀ x, foldedSetIterable iter X.env x = pure x := by intro _; rfl) : PS X (.For tg iter body [] pos) (tFor wi g tb) := by
  intro pins s σ H D I h
  refine wpAny_For (thn (hi pins s σ H _ I h) fun v s1 h1 => thn h1 fun itv s2 h2 => ?_) hs
  obtain ⟨it, fp, tn, J, H2, e, I2, T, st2, f2, W, ⟨m0, w0⟩, turn⟩ := h2
  subst e
  -- what stays true of the iterator's objects through the loop
  have stat : ∀ {H' : Hp}, (∀ b ∈ fp, H' b = none) → ∀ b ∈ fp, FpOk X pins H' b := fun hn b hb => ⟨hn b hb, (f2 b hb).2⟩
  refine codeAny_forLoop_any (fun n s' => ∃ i σ' H', Inv X pins σ' H' s' ∧ tn i s'.heap ∧ (∀ b ∈ fp, H' b = none) ∧ W i n σ' H') ?_ m0 ⟨0, σ, H2, I2, st2, fun b hb => (f2 b hb).1, w0⟩
  rintro n s3 ⟨i, σ3, H3, I3, st3, fr3, w3⟩
  rcases turn i n σ3 H3 w3 with ⟨stop, qn⟩ | ⟨go, N, hN, step⟩
  · refine wpAny_passesOwn hp (thn (T.done X rfl rfl rfl hc i pins s3 σ3 H3 X.xe I3 (stat fr3) st3 stop) fun r s4 ⟨hr, I4⟩ => ?_)
    subst hr
    exact wpAny_execs_nil ⟨σ3, H3, I4, qn⟩
  · refine wpAny_passesOwn hp (thn (T.item X rfl rfl rfl hc i pins s3 σ3 H3 X.xe I3 (stat fr3) st3 go) fun r s4 ⟨u, hr, h4⟩ => ?_)
    subst hr
    refine wpAny_passesOwn hp (thn h4 fun _ s5 ⟨x, H5, I5, r5, y5, st5, fr5⟩ => ?_)
    have I5' := I5.pinned (stat fr5) (T.obj _ _ st5)
    refine wpAny_passesOwn hp (thn (hg _ s5 σ3 H5 x u _ I5' r5 (step x H5 y5)) fun _ s6 ⟨σ6, H6, I6, q6⟩ => ?_)
    refine wpAny_passesOwn hp (thn (hb _ s6 σ6 H6 _ I6 q6) fun f s7 q7 => ?_)
    have again : ∀ {σ7 : St} {H7 : Hp}, Inv X (pins ++ pinsAt fp s5.heap) σ7 H7 s7 → N σ7 H7 → ∃ m, m < n ∧ ∃ i σ' H', Inv X pins σ' H' s7 ∧ tn i s7.heap ∧ (∀ b ∈ fp, H' b = none) ∧ W i m σ' H' := fun {σ7 H7} I7 n7 => by
      obtain ⟨m', hm, w7⟩ := hN σ7 H7 n7
      refine ⟨m', hm, i + 1, σ7, H7, I7.unpinned, T.keep _ _ _ st5 fun b hb o e => (I7.pin (b, o) (List.mem_append_right _ (List.mem_append_right _ (mem_pinsAt hb e)))).1, fun b hb => ?_, w7⟩
      obtain ⟨o, e, d⟩ := T.obj _ _ st5 b hb
      exact (I7.pin (b, o) (List.mem_append_right _ (List.mem_append_right _ (mem_pinsAt hb e)))).2.1
    cases f with
    | next => obtain ⟨σ7, H7, I7, n7⟩ := q7; exact again I7 n7
    | cont => obtain ⟨σ7, H7, I7, n7⟩ := q7; exact again I7 n7
    | brk => obtain ⟨σ7, H7, I7, q7⟩ := q7; exact ⟨σ7, H7, I7.unpinned, q7⟩
    | ret v => obtain ⟨x7, σ7, H7, I7, r7, q7⟩ := q7; exact ⟨x7, σ7, H7, I7.unpinned, r7, q7⟩
end

theorem for_list {K : PySem.W.Frag} {a : Addr} {xs : List V} {g : TG} {tb : TS} {D : Ends} {σ : St} {H : Hp} (Pv : Nat → St → Hp → Prop) (h0 : Pv 0 σ H) (hl : ∀ i σ H, i ≤ xs.length → Pv i σ H → SqL K H a xs)
    (hs : ∀ i x σ H, xs[i]? = some x → Pv i σ H → g x σ H fun σ2 H2 => tb { D with nx := Pv (i + 1), ct := Pv (i + 1), bk := D.nx } σ2 H2) (hd : ∀ σ H, Pv xs.length σ H → D.nx σ H) :
    ∃ W : Nat → Nat → St → Hp → Prop, (∃ m, W 0 m σ H) ∧ ∀ i m σ H, W i m σ H →
      ((Itl K a).stop i H ∧ D.nx σ H) ∨ ((Itl K a).go i H ∧ ∃ N : St → Hp → Prop, (∀ σ' H', N σ' H' → ∃ m', m' < m ∧ W (i + 1) m' σ' H') ∧ ∀ x H', (Itl K a).yld i H x H' → g x σ H' fun σ2 H2 => tb { D with nx := N, ct := N, bk := D.nx } σ2 H2) := by
  refine ⟨fun i m σ H => m = xs.length - i ∧ i ≤ xs.length ∧ Pv i σ H, ⟨xs.length, by simp, Nat.zero_le _, h0⟩, ?_⟩
  rintro i m σ H ⟨rfl, hi, p⟩
  have q := hl i σ H hi p
  by_cases hlt : i < xs.length
  · refine .inr ⟨⟨xs, xs[i], q, by simp [hlt]⟩, Pv (i + 1), fun σ' H' p' => ⟨xs.length - (i + 1), by omega, rfl, hlt, p'⟩, fun x H' y => ?_⟩
    obtain ⟨e, y⟩ := y
    subst e
    exact hs i x σ _ (y xs q) p
  · have e : i = xs.length := by omega
    subst e
    exact .inl ⟨⟨xs, q, Nat.le_refl _⟩, hd σ H p⟩
end L2

namespace L2
open PySem PySem.Spec PyProof.Rows

abbrev R2 := V → V → Hp → VK → Prop
def OpR (X : Cx) (f : Value → Value → Sem Value) (r : R2) : Prop :=
  ∀ (pins : List (Addr × Obj)) (s : Shared) (σ : St) (H : Hp) (x y : V) (v u : Value) (Q : VK), Inv X pins σ H s → RelV x v → RelV y u → r x y H Q →
    wpAny (model X.prog X.w) X.A (f v u) (EP X pins σ Q) X.xe s
def CallR (X : Cx) (f : Value) (r : List V → Hp → VK → Prop) : Prop :=
  ∀ (pins : List (Addr × Obj)) (s : Shared) (σ : St) (H : Hp) (xs : List V) (us : List Value) (Q : VK), Inv X pins σ H s → Vals xs us → r xs H Q →
    wpAny (model X.prog X.w) X.A (call f us) (EP X pins σ Q) X.xe s
def tOp (r : R2) (ta tb : TE) : TE := fun σ H Q => ta σ H fun x H1 => tb σ H1 fun y H2 => r x y H2 Q
def tUn (r : V → Hp → VK → Prop) (ta : TE) : TE := fun σ H Q => ta σ H fun x H1 => r x H1 Q
def rI (C : Int → Int → Prop) (g : Int → Int → V) : R2 := fun x y H Q => ∃ i j, x = .int i ∧ y = .int j ∧ C i j ∧ Q (g i j) H
def rI0 (g : Int → Int → V) : R2 := fun x y H Q => ∃ i j, x = .int i ∧ y = .int j ∧ Q (g i j) H
def rU (g : Int → V) : V → Hp → VK → Prop := fun x H Q => ∃ i, x = .int i ∧ Q (g i) H

section
variable {X : Cx} {a b c : Expr} {ta tb tc : TE} {pos : Pos}

theorem binT (ha : PE X a ta) (hb : PE X b tb) {pins : List (Addr × Obj)} {s : Shared} {σ : St} {H : Hp} {R : V → V → Hp → Prop} (I : Inv X pins σ H s)
    (h : ta σ H fun x H1 => tb σ H1 fun y H2 => R x y H2) {Q : Value → Shared → Prop} {f : Value → Value → Sem Value}
    (hf : ∀ v u s2 x y H2, Inv X pins σ H2 s2 → RelV x v → RelV y u → R x y H2 → wpAny (model X.prog X.w) X.A (f v u) Q X.xe s2) :
    wpAny (model X.prog X.w) X.A (eval a X.env) (fun v s₁ => wpAny (model X.prog X.w) X.A (eval b X.env) (fun u s₂ => wpAny (model X.prog X.w) X.A (f v u) Q X.xe s₂) X.xe s₁) X.xe s := by
  refine thn (ha pins s σ H _ I h) fun v s1 ⟨x, H1, I1, r1, q1⟩ => ?_
  refine thn (hb pins s1 σ H1 _ I1 q1) fun u s2 ⟨y, H2, I2, r2, q2⟩ => ?_
  exact hf v u s2 x y H2 I2 r1 r2 q2

theorem pe_op {op : Operator} {r : R2} (ho : OpR X (binaryOp op) r) (ha : PE X a ta) (hb : PE X b tb) : PE X (.BinOp a op b pos) (tOp r ta tb) := by
  intro pins s σ H Q I h
  exact wpAny_BinOp (binT ha hb I h fun v u s2 x y H2 I2 rx ry q => ho pins s2 σ H2 x y v u Q I2 rx ry q)
theorem opI {f : Value → Value → Sem Value} {C : Int → Int → Prop} {g : Int → Int → Int}
    (rule : ∀ (i j : Int) (t u : Tok) (s : Shared) (Q : Value → Shared → Prop) (E : Value → Shared → Prop), C i j → Q (.int (g i j) s.toks) { s with toks := s.toks + 1 } → wpAny (model X.prog X.w) X.A (f (.int i t) (.int j u)) Q E s) :
    OpR X f (rI C fun i j => .int (g i j)) := by
  intro pins s σ H x y v u Q I rx ry h
  obtain ⟨i, j, rfl, rfl, hc, q⟩ := h
  obtain ⟨t, rfl⟩ := rx
  obtain ⟨t', rfl⟩ := ry
  exact rule i j t t' s _ _ hc ⟨.int (g i j), H, I.tok _, ⟨_, rfl⟩, q⟩
theorem opI0 {f : Value → Value → Sem Value} {g : Int → Int → Int}
    (rule : ∀ (i j : Int) (t u : Tok) (s : Shared) (Q : Value → Shared → Prop) (E : Value → Shared → Prop), Q (.int (g i j) s.toks) { s with toks := s.toks + 1 } → wpAny (model X.prog X.w) X.A (f (.int i t) (.int j u)) Q E s) :
    OpR X f (rI0 fun i j => .int (g i j)) := by
  intro pins s σ H x y v u Q I rx ry h
  obtain ⟨i, j, rfl, rfl, q⟩ := h
  obtain ⟨t, rfl⟩ := rx
  obtain ⟨t', rfl⟩ := ry
  exact rule i j t t' s _ _ ⟨.int (g i j), H, I.tok _, ⟨_, rfl⟩, q⟩
theorem opB0 {f : Value → Value → Sem Value} {g : Int → Int → Bool}
    (rule : ∀ (i j : Int) (t u : Tok) (s : Shared) (Q : Value → Shared → Prop) (E : Value → Shared → Prop), Q (.bool (g i j)) s → wpAny (model X.prog X.w) X.A (f (.int i t) (.int j u)) Q E s) :
    OpR X f (rI0 fun i j => .bl (g i j)) := by
  intro pins s σ H x y v u Q I rx ry h
  obtain ⟨i, j, rfl, rfl, q⟩ := h
  obtain ⟨t, rfl⟩ := rx
  obtain ⟨t', rfl⟩ := ry
  exact rule i j t t' s _ _ ⟨.bl (g i j), H, I, rfl, q⟩

def CPow (i j : Int) : Prop := 0 ≤ j ∧ j ≤ 1000000 ∧ i.natAbs < 2 ^ 64
theorem op_add : OpR X (binaryOp .Add) (rI0 fun i j => .int (i + j)) := opI0 fun _ _ _ _ _ _ _ q => add_int q
theorem op_sub : OpR X (binaryOp .Sub) (rI0 fun i j => .int (i - j)) := opI0 fun _ _ _ _ _ _ _ q => sub_int q
theorem op_mod : OpR X (binaryOp .Mod) (rI (fun _ j => 0 < j) fun i j => .int (i % j)) := opI fun i j _ _ _ _ _ hc q => by
  have h1 : (0 : Int) < j := hc
  exact mod_int' (by omega) (by rw [Int.fmod_eq_emod_of_nonneg i (by omega)]; exact q)
theorem op_pow : OpR X (binaryOp .Pow) (rI CPow fun i j => .int (i ^ j.toNat)) := opI fun _ _ _ _ _ _ _ hc q => pow_int_small hc.1 hc.2.1 hc.2.2 q
end

def scal : V → V → Bool
  | .non, .non => true | .non, .int _ => true | .int _, .non => true | .non, .bl _ => true | .bl _, .non => true | .non, .str _ => true | .str _, .non => true
  | .int _, .int _ => true | .bl _, .bl _ => true | .str _, .str _ => true | .byt _, .byt _ => true
  | .int _, .str _ => true | .str _, .int _ => true | .bl _, .str _ => true | .str _, .bl _ => true
  | _, _ => false
def rEq : R2 := fun x y H Q => scal x y = true ∧ Q (.bl (decide (x = y))) H
def rNe : R2 := fun x y H Q => scal x y = true ∧ Q (.bl (!decide (x = y))) H

theorem dec_int {i j : Int} : decide (V.int i = V.int j) = (i == j) := by
  rw [Bool.eq_iff_iff]
  simp
theorem dec_bl {i j : Bool} : decide (V.bl i = V.bl j) = (i == j) := by
  rw [Bool.eq_iff_iff]
  simp
theorem dec_str {i j : Str} : decide (V.str i = V.str j) = (i == j) := by
  rw [Bool.eq_iff_iff]
  simp
theorem dec_byt {i j : Array UInt8} : decide (V.byt i = V.byt j) = (i.toList == j.toList) := by
  rw [Bool.eq_iff_iff]
  cases i
  cases j
  simp

section
variable {X : Cx} {a b c : Expr} {ta tb tc : TE} {pos : Pos}
theorem fin_bl {pins : List (Addr × Obj)} {σ : St} {H : Hp} {s : Shared} {Q : VK} {k k' : Bool} (I : Inv X pins σ H s) (q : Q (.bl k) H) (e : k = k') : EP X pins σ Q (.bool k') s := by
  subst e
  exact ⟨.bl k, H, I, rfl, q⟩
theorem op_eq : OpR X (compareOp .Eq) rEq := by
  intro pins s σ H x y v u Q I rx ry h
  obtain ⟨hs, q⟩ := h
  cases x with
  | non =>
    cases rx
    cases y with
    | non => cases ry; exact PySem.EqNone.eq_none_none (fin_bl I q (by simp))
    | bl j => cases ry; exact PySem.EqNone.eq_none_bool (fin_bl I q (by simp))
    | int j => obtain ⟨t', rfl⟩ := ry; exact PySem.EqNone.eq_none_int (fin_bl I q (by simp))
    | str j => obtain ⟨t', rfl⟩ := ry; exact PySem.EqNone.eq_none_str (fin_bl I q (by simp))
    | _ => exact absurd (show false = true from hs) Bool.false_ne_true
  | bl i =>
    cases rx
    cases y with
    | non => cases ry; exact PySem.EqNone.eq_bool_none (fin_bl I q (by simp))
    | bl j => cases ry; exact eq_bool (fin_bl I q dec_bl)
    | str j => obtain ⟨t', rfl⟩ := ry; exact PySem.EqMixed.eq_bool_str (fin_bl I q (by simp))
    | _ => exact absurd (show false = true from hs) Bool.false_ne_true
  | int i =>
    obtain ⟨t, rfl⟩ := rx
    cases y with
    | non => cases ry; exact PySem.EqNone.eq_int_none (fin_bl I q (by simp))
    | int j => obtain ⟨t', rfl⟩ := ry; exact eq_int (fin_bl I q dec_int)
    | str j => obtain ⟨t', rfl⟩ := ry; exact PySem.EqMixed.eq_int_str (fin_bl I q (by simp))
    | _ => exact absurd (show false = true from hs) Bool.false_ne_true
  | str i =>
    obtain ⟨t, rfl⟩ := rx
    cases y with
    | non => cases ry; exact PySem.EqNone.eq_str_none (fin_bl I q (by simp))
    | bl j => cases ry; exact PySem.EqMixed.eq_str_bool (fin_bl I q (by simp))
    | int j => obtain ⟨t', rfl⟩ := ry; exact PySem.EqMixed.eq_str_int (fin_bl I q (by simp))
    | str j => obtain ⟨t', rfl⟩ := ry; exact eq_str (fin_bl I q dec_str)
    | _ => exact absurd (show false = true from hs) Bool.false_ne_true
  | byt i =>
    obtain ⟨t, rfl⟩ := rx
    cases y with
    | byt j => obtain ⟨t', rfl⟩ := ry; exact PySem.W.eq_bytes (fin_bl I q dec_byt)
    | _ => exact absurd (show false = true from hs) Bool.false_ne_true
  | _ => cases y <;> exact absurd (show false = true from hs) Bool.false_ne_true
theorem op_ne : OpR X (compareOp .NotEq) rNe := by
  intro pins s σ H x y v u Q I rx ry h
  obtain ⟨hs, q⟩ := h
  cases x with
  | non =>
    cases rx
    cases y with
    | non => cases ry; exact PySem.EqNone.ne_none_none (fin_bl I q (by simp))
    | bl j => cases ry; exact PySem.EqNone.ne_none_bool (fin_bl I q (by simp))
    | int j => obtain ⟨t', rfl⟩ := ry; exact PySem.EqNone.ne_none_int (fin_bl I q (by simp))
    | str j => obtain ⟨t', rfl⟩ := ry; exact PySem.EqNone.ne_none_str (fin_bl I q (by simp))
    | _ => exact absurd (show false = true from hs) Bool.false_ne_true
  | bl i =>
    cases rx
    cases y with
    | non => cases ry; exact PySem.EqNone.ne_bool_none (fin_bl I q (by simp))
    | bl j => cases ry; exact ne_bool (fin_bl I q (congrArg not dec_bl))
    | str j => obtain ⟨t', rfl⟩ := ry; exact PySem.EqMixed.ne_bool_str (fin_bl I q (by simp))
    | _ => exact absurd (show false = true from hs) Bool.false_ne_true
  | int i =>
    obtain ⟨t, rfl⟩ := rx
    cases y with
    | non => cases ry; exact PySem.EqNone.ne_int_none (fin_bl I q (by simp))
    | int j => obtain ⟨t', rfl⟩ := ry; exact ne_int (fin_bl I q (congrArg not dec_int))
    | str j => obtain ⟨t', rfl⟩ := ry; exact PySem.EqMixed.ne_int_str (fin_bl I q (by simp))
    | _ => exact absurd (show false = true from hs) Bool.false_ne_true
  | str i =>
    obtain ⟨t, rfl⟩ := rx
    cases y with
    | non => cases ry; exact PySem.EqNone.ne_str_none (fin_bl I q (by simp))
    | bl j => cases ry; exact PySem.EqMixed.ne_str_bool (fin_bl I q (by simp))
    | int j => obtain ⟨t', rfl⟩ := ry; exact PySem.EqMixed.ne_str_int (fin_bl I q (by simp))
    | str j => obtain ⟨t', rfl⟩ := ry; exact ne_str (fin_bl I q (congrArg not dec_str))
    | _ => exact absurd (show false = true from hs) Bool.false_ne_true
  | byt i =>
    obtain ⟨t, rfl⟩ := rx
    cases y with
    | byt j => obtain ⟨t', rfl⟩ := ry; exact PySem.W.ne_bytes (fin_bl I q (congrArg not dec_byt))
    | _ => exact absurd (show false = true from hs) Bool.false_ne_true
  | _ => cases y <;> exact absurd (show false = true from hs) Bool.false_ne_true

theorem op_lt : OpR X (compareOp .Lt) (rI0 fun i j => .bl (decide (i < j))) := opB0 fun _ _ _ _ _ _ _ q => lt_int q
theorem op_gt : OpR X (compareOp .Gt) (rI0 fun i j => .bl (decide (j < i))) := opB0 fun _ _ _ _ _ _ _ q => gt_int q
theorem op_in_str : OpR X (compareOp .In) (fun x y H Q => ∃ i j, x = .str i ∧ y = .str j ∧ Q (.bl (!(Builtin.Str.occurrences j i 0 j.length 1).isEmpty)) H) := by
  intro pins s σ H x y v u Q I rx ry h
  obtain ⟨i, j, rfl, rfl, q⟩ := h
  obtain ⟨t, rfl⟩ := rx
  obtain ⟨t', rfl⟩ := ry
  exact in_str (fin_bl I q rfl)

theorem nomark (b : Expr) {op : CmpOp} (h : op ≠ .In := by decide) (h2 : op ≠ .NotIn := by decide) : behindInMarks op b = false := by
  have e1 : (op == CmpOp.In) = false := by cases op <;> first | rfl | exact absurd rfl h
  have e2 : (op == CmpOp.NotIn) = false := by cases op <;> first | rfl | exact absurd rfl h2
  cases b <;> simp [behindInMarks, e1, e2]
theorem pe_cmpR {op : CmpOp} {r : R2} (ho : OpR X (compareOp op) r) (ha : PE X a ta) (hb : PE X b tb) (hm : behindInMarks op b = false) : PE X (.Compare a [op] [b] pos) (tOp r ta tb) := by
  intro pins s σ H Q I h
  exact wpAny_Compare1 (binT ha hb I h fun v u s2 x y H2 I2 rx ry q => ho pins s2 σ H2 x y v u Q I2 rx ry q) hm
def tTest (t : TE) : TT := fun σ H Q => t σ H fun x H' => ∃ k, x = .bl k ∧ Q k H'
theorem pt_cmpR {op : CmpOp} {r : R2} (ho : OpR X (compareOp op) r) (ha : PE X a ta) (hb : PE X b tb) (hm : behindInMarks op b = false) : PT X (.Compare a [op] [b] pos) (tTest (tOp r ta tb)) := by
  intro pins s σ H Q I h
  refine wpAny_isTrue_Compare1 (thn (ha pins s σ H _ I h) fun v s1 ⟨x, H1, I1, r1, q1⟩ => thn (hb pins s1 σ H1 _ I1 q1) fun u s2 ⟨y, H2, I2, r2, q2⟩ =>
    thn (ho pins s2 σ H2 x y v u _ I2 r1 r2 q2) fun c s3 ⟨z, H3, I3, r3, k, e, q3⟩ => ?_) hm
  subst e
  cases r3
  exact wpAny_truthy_bool ⟨H3, I3, q3⟩
def tChain (r r' : R2) (ta tb tc : TE) : TE := fun σ H Q => ta σ H fun x H1 => tb σ H1 fun y H2 => r x y H2 fun z H3 => ∃ k, z = .bl k ∧
  (if k = true then tc σ H3 fun w' H4 => r' y w' H4 Q else Q (.bl false) H3)
theorem line63 : (sizeLine : Nat) < 2 ^ 63 := by rw [sizeLine_eq]; decide
theorem op_add_str : OpR X (binaryOp .Add) (fun x y H Q => ∃ i j, x = .str i ∧ y = .str j ∧ i.length + j.length ≤ sizeLine ∧ Q (.str (i ++ j)) H) := by
  intro pins s σ H x y v u Q I rx ry h
  obtain ⟨i, j, rfl, rfl, hz, q⟩ := h
  obtain ⟨t, rfl⟩ := rx
  obtain ⟨t', rfl⟩ := ry
  exact add_str (fun t' tk => ⟨.str (i ++ j), H, I.tok _, ⟨_, rfl⟩, q⟩) hz
theorem vals1 {x : V} {us : List Value} (r : Vals [x] us) : ∃ u, us = [u] ∧ RelV x u := by
  cases r with
  | cons r1 r2 => cases r2; exact ⟨_, rfl, r1⟩
theorem vals2 {x y : V} {us : List Value} (r : Vals [x, y] us) : ∃ u w', us = [u, w'] ∧ RelV x u ∧ RelV y w' := by
  cases r with
  | cons r1 r2 =>
    cases r2 with
    | cons r3 r4 => cases r4; exact ⟨_, _, rfl, r1, r3⟩
theorem call_max2 (hc : X.calm = true) : CallR X (.builtin "max") (fun xs H Q => ∃ i j, xs = [.int i, .int j] ∧ Q (.int (if j > i then j else i)) H) := by
  intro pins s σ H xs us Q I r h
  obtain ⟨i, j, rfl, q⟩ := h
  obtain ⟨u, w', rfl, ⟨t, rfl⟩, ⟨t', rfl⟩⟩ := vals2 r
  refine max_two_ints (I.ok.hd hc) fun h' tk k => ⟨_, H, I.kept k, ?_, q⟩
  by_cases hj : j > i
  · rw [if_pos hj, if_pos hj]; exact ⟨_, rfl⟩
  · rw [if_neg hj, if_neg hj]; exact ⟨_, rfl⟩
theorem call_min2 (hc : X.calm = true) : CallR X (.builtin "min") (fun xs H Q => ∃ i j, xs = [.int i, .int j] ∧ Q (.int (if j < i then j else i)) H) := by
  intro pins s σ H xs us Q I r h
  obtain ⟨i, j, rfl, q⟩ := h
  obtain ⟨u, w', rfl, ⟨t, rfl⟩, ⟨t', rfl⟩⟩ := vals2 r
  refine min_two_ints (I.ok.hd hc) fun h' tk k => ⟨_, H, I.kept k, ?_, q⟩
  by_cases hj : j < i
  · rw [if_pos hj, if_pos hj]; exact ⟨_, rfl⟩
  · rw [if_neg hj, if_neg hj]; exact ⟨_, rfl⟩
theorem call_str_int : CallR X (.type "str") (fun xs H Q => ∃ i, xs = [.int i] ∧ i.natAbs.log2 < 1920 ∧ Q (.str (toString i)) H) := by
  intro pins s σ H xs us Q I r h
  obtain ⟨i, rfl, hz, q⟩ := h
  obtain ⟨u, rfl, t, rfl⟩ := vals1 r
  exact PySem.P.str_of_int hz ⟨.str _, H, I.tok _, ⟨_, rfl⟩, q⟩
end
end L2

namespace L2
open PySem PySem.Spec PyProof.Rows

structure ObjM (h : Heap) (x dx C : Addr) (mA : Str → Option Value) : Prop where
  obj : h.get? x = some (PySem.W.instObj C dx)
  ns : h.Ns1 dx mA
  ne : dx ≠ x

theorem lookIn_ns {h : Heap} {dx : Addr} {mA : Str → Option Value} (n : h.Ns1 dx mA) : ∃ od, h.get? dx = some od ∧ ∀ name, PySem.W.lookIn name od = some (mA name) := by
  obtain ⟨o, es, ep, ho, hd, hk, _, hm⟩ := n
  refine ⟨o, ho, fun name => ?_⟩
  have e := hm name
  unfold nsFind findBy at e
  rw [← Array.find?_toList] at e
  unfold PySem.W.lookIn
  rw [hd]
  dsimp only
  split
  · rename_i y q
    rw [q] at e
    exact congrArg some e
  · rename_i q
    rw [q] at e
    have a : es.toList.any (·.refKey) = false := by
      rw [List.any_eq_false]
      intro y hy
      obtain ⟨z, t, hkey⟩ := hk y (Array.mem_toList_iff.mp hy)
      simp [DictEntry.refKey, hkey]
    have a' : ¬ es.toList.any (·.refKey) = true := by rw [a]; exact Bool.false_ne_true
    rw [if_neg a']
    exact congrArg some e

theorem ObjM.look {h : Heap} {x dx C : Addr} {mA : Str → Option Value} (I : ObjM h x dx C mA) : ∃ od, PySem.W.InstAt h x (PySem.W.instObj C dx) C (some od) ∧ ∀ name, PySem.W.lookIn name od = some (mA name) :=
  let ⟨od, ho, hl⟩ := lookIn_ns I.ns
  ⟨od, ⟨I.obj, rfl, rfl, ho⟩, hl⟩

section
variable {prog : Program} {w : World} {A : Around} {E : Value → Shared → Prop} {s : Shared} {K : PySem.W.Frag} {x dx C f : Addr} {mA : Str → Option Value} {name : Str} {v : Value}

theorem get_map {expr : Bool} {Q : Value → Shared → Prop} (X : K.In s.heap) (I : ObjM s.heap x dx C mA) (hg : PySem.W.plainGet K C name = true) (hh : PySem.W.hasDictIn K C = true)
    (ha : PySem.W.findIn K (.ref C) name = some none) (hv : mA name = some v) (hv' : PySem.W.handedIn v = true) (h : Q v { s with toks := s.toks + 1 }) :
    wpAny (model prog w) A (getAttr (.ref x) name expr) Q E s := by
  obtain ⟨od, J, hl⟩ := I.look
  exact PySem.W.get_value X J (PySem.W.plainGet_of hg).1 (PySem.W.findObj_own hh ha rfl (by rw [hl, hv])) hv' h

theorem get_meth {pl : Sem Bool} {Q : Value × List Value → Shared → Prop} (X : K.In s.heap) (I : ObjM s.heap x dx C mA) (hg : PySem.W.plainGet K C name = true)
    (hf : PySem.W.findIn K (.ref C) name = some (some (.ref f))) (ht : PySem.W.isFn K (.ref f) = true) (hv : mA name = none) (h : Q (.ref f, [.ref x]) s) :
    wpAny (model prog w) A (getMethod (.ref x) name pl) Q E s := by
  obtain ⟨od, J, hl⟩ := I.look
  exact PySem.W.method_fn X J (PySem.W.plainGet_of hg).1 (PySem.W.plainGet_of hg).2 hf (beq_iff_eq.mp ht) (by show (PySem.W.lookIn name od).map (·.isSome) = some false; rw [hl, hv]; rfl) h

theorem set_map {ns : List Str} {Q : Unit → Shared → Prop} (X : K.In s.heap) (I : ObjM s.heap x dx C mA)
    (hs : PySem.W.findIn K (.ref C) "__setattr__" = some (some (.builtin "object.__setattr__"))) (hp : PySem.W.plainOver K C = true) (ht : PySem.W.takerIn K C name = some none) (hh : PySem.W.hasDictIn K C = true)
    (hw : PySem.Within mA ns) (hsz : ns.length ≤ sizeLine)
    (h : ∀ h', ObjM h' x dx C (fun y => if y = name then some v else mA y) → Heap.SameBut dx s.heap h' → Q () { s with heap := h', toks := s.toks + 2 }) :
    wpAny (model prog w) A (setAttr (.ref x) name v) Q E s := by
  obtain ⟨od, J, hl⟩ := I.look
  refine PySem.W.set_plain X J hs (PySem.W.osa_open (s := { s with toks := s.toks + 1 }) (r := none) X J hp ht fun b => ?_)
  obtain ⟨cd, hc, hd'⟩ := PySem.W.any_some hh
  have hx : s.heap.get? x = some ⟨.ref C, some dx, .plain, #[]⟩ := I.obj
  refine wpAny_bind (wpAny_pure (wpAny_bind (wpAny_bind (wpAny_loadPart hx (wpAny_bind (PySem.W.Looks.here (s := { s with toks := s.toks + 1 }) (PySem.W.looks_clsIn X hc) ?_))))))
  rw [hd']
  refine wpAny_pure (a := some dx) (wpAny_bind (wpAny_pure (wpAny_bind ?_)))
  refine wpAny_nsSet1 (s := { s with toks := s.toks + 1 }) I.ns fun h' hn2 hs2 => ?_
  obtain ⟨oD, esD, epD, hoD, hdD, hcD⟩ := hn2.count (PySem.Within.cons name v hw)
  refine wpAny_bind (wpAny_lookBehind hoD (by rw [hdD]; exact pastItsLine_dict (Nat.le_trans hcD (by rw [List.length_cons]; omega))) ?_)
  exact wpAny_pure (h _ ⟨(hs2.2 _ (Ne.symm I.ne)).trans I.obj, hn2, I.ne⟩ hs2)

theorem make_map {R : Result → Shared → Prop} {vs : List Value} {kw : List (Str × Value)} (X : K.In s.heap) (hm : PySem.W.makesIn K C = true)
    (hi : PySem.W.findIn K (.ref C) "__init__" = some (some (.ref f))) (hf : PySem.W.typeIn K (.ref f) = some (.type "function"))
    (h : codeAny (model prog w) (A.under (.builtin "type.__call__" ⟨.ref C :: vs, kw⟩)) (.call (.ref f) ⟨.ref (s.heap.objs.size + 1) :: vs, kw⟩) (PySem.W.InitBack (s.heap.objs.size + 1) R)
      { s with heap := (s.heap.push PySem.W.emptyDict).push (PySem.W.instObj C s.heap.objs.size) }) :
    codeAny (model prog w) A (.call (.ref C) ⟨vs, kw⟩) R s := by
  obtain ⟨hh, g, d, t, os⟩ := s
  exact PySem.W.make_core (PySem.W.makes_of X hm) (PySem.W.looks_findIn X hi) (fun self => PySem.W.bind_fn X self hf) (.inl rfl) h
end

def putF (f : Str) (v : V) : List (Str × V) → List (Str × V)
  | [] => [(f, v)]
  | (g, x) :: r => if g = f then (g, v) :: r else (g, x) :: putF f v r
theorem lookup_putF (f g : Str) (v : V) : ∀ fs : List (Str × V), (putF f v fs).lookup g = if g = f then some v else fs.lookup g
  | [] => by
    show List.lookup g [(f, v)] = _
    by_cases h : g = f
    · have hb : (g == f) = true := beq_iff_eq.mpr h
      simp only [List.lookup, hb, if_pos h]
    · have hb : (g == f) = false := beq_eq_false_iff_ne.mpr h
      simp only [List.lookup, hb, if_neg h]
  | (k, x) :: r => by
    have ih := lookup_putF f g v r
    rw [show putF f v ((k, x) :: r) = (if k = f then (k, v) :: r else (k, x) :: putF f v r) from rfl]
    by_cases hk : k = f
    · rw [if_pos hk]
      by_cases h : g = k
      · have hb : (g == k) = true := beq_iff_eq.mpr h
        simp only [List.lookup, hb, if_pos (h.trans hk)]
      · have hb : (g == k) = false := beq_eq_false_iff_ne.mpr h
        simp only [List.lookup, hb, if_neg (fun e : g = f => h (e.trans hk.symm))]
    · rw [if_neg hk]
      by_cases h : g = k
      · have hb : (g == k) = true := beq_iff_eq.mpr h
        simp only [List.lookup, hb, if_neg (fun e : g = f => hk (h.symm.trans e))]
      · have hb : (g == k) = false := beq_eq_false_iff_ne.mpr h
        simp only [List.lookup, hb]
        exact ih
theorem keys_putF (f : Str) (v : V) : ∀ fs : List (Str × V), f ∈ (putF f v fs).map (·.1) ∧ ∀ g, g ∈ fs.map (·.1) → g ∈ (putF f v fs).map (·.1)
  | [] => ⟨by simp [putF], fun g h => by simp at h⟩
  | (k, x) :: r => by
    obtain ⟨i1, i2⟩ := keys_putF f v r
    rw [show putF f v ((k, x) :: r) = (if k = f then (k, v) :: r else (k, x) :: putF f v r) from rfl]
    by_cases hk : k = f
    · rw [if_pos hk]
      subst hk
      exact ⟨by simp, fun g h => by simpa using h⟩
    · rw [if_neg hk]
      refine ⟨?_, fun g h => ?_⟩
      · rw [List.map_cons]
        exact List.mem_cons_of_mem _ i1
      · rw [List.map_cons] at h ⊢
        rcases List.mem_cons.mp h with e | e
        · exact List.mem_cons.mpr (.inl e)
        · exact List.mem_cons_of_mem _ (i2 g e)
theorem length_putF (f : Str) (v : V) : ∀ fs : List (Str × V), (putF f v fs).length ≤ fs.length + 1
  | [] => by simp [putF]
  | (k, x) :: r => by
    have ih := length_putF f v r
    rw [show putF f v ((k, x) :: r) = (if k = f then (k, v) :: r else (k, x) :: putF f v r) from rfl]
    by_cases hk : k = f
    · rw [if_pos hk, List.length_cons, List.length_cons]; omega
    · rw [if_neg hk, List.length_cons, List.length_cons]; omega

theorem RelO.some_of {v : V} {o : Option Value} (r : RelO (some v) o) : ∃ u, o = some u ∧ RelV v u := by
  cases o with
  | none => exact (show False from r).elim
  | some u => exact ⟨u, rfl, r⟩
theorem RelO.none_of {o : Option Value} (r : RelO none o) : o = none := by
  cases o with
  | none => rfl
  | some u => exact (show False from r).elim
theorem handed_of {v : V} {u : Value} (r : RelV v u) : PySem.W.handedIn u = true := by
  cases v with
  | non => cases (show u = Value.none from r); rfl
  | bl b => cases (show u = Value.bool b from r); rfl
  | int i => obtain ⟨t, e⟩ := (show ∃ t, u = Value.int i t from r); cases e; rfl
  | str x => obtain ⟨t, e⟩ := (show ∃ t, u = Value.str x t from r); cases e; rfl
  | byt b => obtain ⟨t, e⟩ := (show ∃ t, u = Value.bytes b t from r); cases e; rfl
  | flt b => obtain ⟨t, e⟩ := (show ∃ t, u = Value.float b t from r); cases e; rfl
  | ref a => cases (show u = Value.ref a from r); rfl
  | ty n => cases (show u = Value.type n from r); rfl

section
variable {P : Program} {w : World} {H H' : Hp} {h h' : Heap} {a C dx : Addr} {fs fs' : List (Str × V)}
theorem ins_get (hok : HOk P w H h) (e : H a = some (.ins C dx fs)) : ∃ mA, ObjM h a dx C mA ∧ (∀ f, RelO (fs.lookup f) (mA f)) ∧ PySem.Within mA (fs.map (·.1)) ∧ fs.length ≤ 1000 ∧ H dx = some (.own a) := by
  obtain ⟨d, z, ne, ob, mA, n, r, q⟩ := (show ObjOk P w H h a (.ins C dx fs) from hok a _ e)
  exact ⟨mA, ⟨ob, n, ne⟩, r, q, z, d⟩
end

structure Cls (K : PySem.W.Frag) (C : Addr) : Prop where
  pg : PySem.W.plainGet K C Str.empty = true
  hd : PySem.W.hasDictIn K C = true
  po : PySem.W.plainOver K C = true
  sa : PySem.W.findIn K (.ref C) "__setattr__" = some (some (.builtin "object.__setattr__"))
theorem Cls.get {K : PySem.W.Frag} {C : Addr} (c : Cls K C) (f : Str) : PySem.W.plainGet K C f = true := c.pg
def NoAttr (K : PySem.W.Frag) (C : Addr) (f : Str) : Prop := PySem.W.findIn K (.ref C) f = some none
theorem NoAttr.taker {K : PySem.W.Frag} {C : Addr} {f : Str} (n : NoAttr K C f) : PySem.W.takerIn K C f = some none := by
  unfold PySem.W.takerIn
  rw [show PySem.W.findIn K (.ref C) f = some none from n]
  rfl
structure Meth (K : PySem.W.Frag) (C : Addr) (m : Str) (f : Addr) : Prop where
  at_ : PySem.W.findIn K (.ref C) m = some (some (.ref f))
  fn : PySem.W.isFn K (.ref f) = true
  kp : PySem.W.keepIn K (.ref f) = true

section
variable {X : Cx} {pins : List (Addr × Obj)} {σ : St} {H : Hp} {s : Shared} {a C dx : Addr} {fs : List (Str × V)} {f : Str} {v : V} {A : Around} {E : Value → Shared → Prop}

theorem getattr_ok {b : Bool} {Q : Value → Shared → Prop} (I : Inv X pins σ H s) (e : H a = some (.ins C dx fs)) (c : Cls X.K C) (n : NoAttr X.K C f) (l : fs.lookup f = some v)
    (h : ∀ u s', Inv X pins σ H s' → RelV v u → Q u s') : wpAny (model X.prog X.w) A (getAttr (.ref a) f b) Q E s := by
  obtain ⟨mA, O, r, _, _, _⟩ := ins_get I.hok e
  obtain ⟨u, hu, ru⟩ := RelO.some_of (v := v) (o := mA f) (by rw [← l]; exact r f)
  exact get_map I.kIn O (c.get f) c.hd n hu (handed_of ru) (h u _ (I.tok _) ru)

theorem getmeth_ok {m : Str} {g : Addr} {pl : Sem Bool} {Q : Value × List Value → Shared → Prop} (I : Inv X pins σ H s) (e : H a = some (.ins C dx fs)) (c : Cls X.K C) (k : Meth X.K C m g) (l : fs.lookup m = none)
    (h : Q (.ref g, [.ref a]) s) : wpAny (model X.prog X.w) A (getMethod (.ref a) m pl) Q E s := by
  obtain ⟨mA, O, r, _, _, _⟩ := ins_get I.hok e
  have hn : mA m = none := RelO.none_of (by rw [← l]; exact r m)
  exact get_meth I.kIn O (c.get m) k.at_ k.fn hn h

theorem setattr_ok {y : V} {u : Value} {Q : Unit → Shared → Prop} (I : Inv X pins σ H s) (e : H a = some (.ins C dx fs)) (c : Cls X.K C) (n : NoAttr X.K C f) (hl : fs.length < 1000) (ry : RelV y u)
    (h : ∀ s', Inv X pins σ (upd H a (.ins C dx (putF f y fs))) s' → Q () s') : wpAny (model X.prog X.w) A (setAttr (.ref a) f u) Q E s := by
  obtain ⟨mA, O, r, wi, _, ho⟩ := ins_get I.hok e
  have hz : (fs.map (·.1)).length ≤ sizeLine := by rw [List.length_map, sizeLine_eq]; omega
  refine set_map I.kIn O c.sa c.po n.taker c.hd wi hz fun h' O' sb => h _ ?_
  have hd : ∃ o, h'.get? dx = some o := let ⟨o, _, _, e', _⟩ := O'.ns; ⟨o, e'⟩
  refine I.write (x := a) (e := dx) (by rw [e]; exact True.intro) (.inr ho) (fun b q hb z => (sb.2 b hb).trans z) hd ?_
  refine ⟨by rw [upd_ne O.ne]; exact ho, ?_, O.ne, O'.obj, _, O'.ns, fun g => ?_, fun g hg => ?_⟩
  · have := length_putF f y fs; omega
  · show RelO ((putF f y fs).lookup g) (if g = f then some u else mA g)
    rw [lookup_putF]
    by_cases q : g = f
    · rw [if_pos q, if_pos q]; exact ry
    · rw [if_neg q, if_neg q]; exact r g
  · by_cases q : g = f
    · rw [q]; exact (keys_putF f y fs).1
    · refine (keys_putF f y fs).2 g (wi g fun z => hg ?_)
      show (if g = f then some u else mA g) = none
      rw [if_neg q]; exact z

theorem Inv.made (I : Inv X pins σ H s) : Inv X pins σ (upd (upd H s.heap.objs.size (.own (s.heap.objs.size + 1))) (s.heap.objs.size + 1) (.ins C s.heap.objs.size []))
    { s with heap := (s.heap.push PySem.W.emptyDict).push (PySem.W.instObj C s.heap.objs.size) } := by
  have e1 : (s.heap.push PySem.W.emptyDict).get? s.heap.objs.size = some PySem.W.emptyDict := Heap.get?_push_size s.heap rfl
  have e2 : ((s.heap.push PySem.W.emptyDict).push (PySem.W.instObj C s.heap.objs.size)).get? (s.heap.objs.size + 1) = some (PySem.W.instObj C s.heap.objs.size) := by
    have := Heap.get?_push_size (s.heap.push PySem.W.emptyDict) (o := PySem.W.instObj C s.heap.objs.size) rfl
    rwa [Heap.size_push] at this
  have e3 : (s.heap.push PySem.W.emptyDict).Ns s.heap.objs.size (fun _ => none) := ⟨PySem.W.emptyDict, #[], _, e1, rfl, (fun e he => absurd he (by simp)), fun _ => rfl⟩
  have I1 := I.laid (a := s.heap.objs.size) (o := .own (s.heap.objs.size + 1)) (h' := s.heap.push PySem.W.emptyDict) (t' := s.toks) (fun b u q => Heap.get?_push_of_some _ q) (Nat.le_refl _) ⟨_, e1⟩
  refine I1.laid (a := s.heap.objs.size + 1) (o := .ins C s.heap.objs.size []) (t' := s.toks) (fun b u q => Heap.get?_push_of_some _ q) (Nat.le_of_eq (Heap.size_push _ _)) ?_
  have ne : s.heap.objs.size ≠ s.heap.objs.size + 1 := Nat.ne_of_lt (Nat.lt_succ_self _)
  refine ⟨by rw [upd_ne ne, upd_same], Nat.zero_le _, ne, e2, fun _ => none, (Heap.Ns1.of_empty e3).at fun o q => Heap.get?_push_of_some _ q, fun _ => True.intro, fun y hy => absurd rfl hy⟩

theorem attr_of {prog : Program} {w : World} {env : Env} {e : Expr} {f : Str} {pos : Pos} {s : Shared} {Q : Value → Shared → Prop} (hb : attributeBase e f env (eval e env) = eval e env)
    (h : wpAny (model prog w) A (eval e env) (fun o s₁ => wpAny (model prog w) A (getAttr o f true) Q E s₁) E s) : wpAny (model prog w) A (eval (.Attribute e f pos) env) Q E s :=
  Attribute_any_ h (by rw [arm_eval_Attribute, hb])
end

def tFld (K : PySem.W.Frag) (ta : TE) (f : Str) : TE := fun σ H Q => ta σ H fun x H1 => ∃ a C dx fs v, x = .ref a ∧ H1 a = some (.ins C dx fs) ∧ Cls K C ∧ NoAttr K C f ∧ fs.lookup f = some v ∧ Q v H1
def sFld (K : PySem.W.Frag) (ta tv : TE) (f : Str) : TS := fun D σ H => tv σ H fun y H1 => ta σ H1 fun x H2 => ∃ a C dx fs, x = .ref a ∧ H2 a = some (.ins C dx fs) ∧ Cls K C ∧ NoAttr K C f ∧ fs.length < 1000 ∧
  D.nx σ (upd H2 a (.ins C dx (putF f y fs)))
def InOp (X : Cx) (op : Operator) (rd : V → V → Hp → VK → Prop) : Prop :=
  ∀ (pins : List (Addr × Obj)) (s : Shared) (σ : St) (H : Hp) (x y : V) (u v : Value) (Q : VK), Inv X pins σ H s → RelV x u → RelV y v → rd x y H Q → wpAny (model X.prog X.w) X.A (inplaceOp op u v) (EP X pins σ Q) X.xe s
def sFldAug (K : PySem.W.Frag) (ta tv : TE) (rd : V → V → Hp → VK → Prop) (f : Str) : TS := fun D σ H => ta σ H fun x H1 => ∃ a C dx fs v, x = .ref a ∧ H1 a = some (.ins C dx fs) ∧ Cls K C ∧ NoAttr K C f ∧ fs.lookup f = some v ∧
  tv σ H1 fun y H2 => rd v y H2 fun z H3 => ∃ dx' fs', H3 a = some (.ins C dx' fs') ∧ fs'.length < 1000 ∧ D.nx σ (upd H3 a (.ins C dx' (putF f z fs')))

section
variable {X : Cx} {o e value : Expr} {f : Str} {pos pos' tpos : Pos} {ta tv : TE}
theorem pe_fld (he : PE X e ta) (hb : attributeBase e f X.env (eval e X.env) = eval e X.env) : PE X (.Attribute e f pos) (tFld X.K ta f) := by
  intro pins s σ H Q I h
  refine attr_of hb (thn (he pins s σ H _ I h) fun u s1 ⟨x, H1, I1, rx, a, C, dx, fs, v, ex, ea, c, n, l, q⟩ => ?_)
  subst ex
  obtain rfl : u = Value.ref a := rx
  exact getattr_ok I1 ea c n l fun u' s2 I2 ru => ⟨v, H1, I2, ru, q⟩
theorem ps_fld (ha : PE X o ta) (hv : PE X value tv) (hs : swapsWith value (some (.Attribute o f pos')) pos.line X.env = pure false) : PS X (.Assign [.Attribute o f pos'] value pos) (sFld X.K ta tv f) := by
  intro pins s σ H D I h
  refine plainObj_wpAny_Assign_Attribute (thn (hv pins s σ H _ I h) fun u s1 ⟨y, H1, I1, ry, q⟩ => thn (ha pins s1 σ H1 _ I1 q) fun ov s2 ⟨x, H2, I2, rx, a, C, dx, fs, ex, ea, c, n, l, q2⟩ => ?_) hs
  subst ex
  obtain rfl : ov = Value.ref a := rx
  exact setattr_ok I2 ea c n l ry fun s3 I3 => ⟨σ, _, I3, q2⟩
theorem ps_fldaug {op : Operator} {rd : V → V → Hp → VK → Prop} (ha : PE X o ta) (hv : PE X value tv) (hop : InOp X op rd) : PS X (.AugAssign (.Attribute o f tpos) op value pos) (sFldAug X.K ta tv rd f) := by
  intro pins s σ H D I h
  refine wpAny_AugAssign_AttributeAny (thn (ha pins s σ H _ I h) fun ov s1 ⟨x, H1, I1, rx, a, C, dx, fs, v, ex, ea, c, n, l, q⟩ => ?_)
  subst ex
  obtain rfl : ov = Value.ref a := rx
  refine getattr_ok I1 ea c n l fun u s2 I2 ru => thn (hv pins s2 σ H1 _ I2 q) fun w3 s3 ⟨y, H2, I3, ry, q3⟩ => thn (hop pins s3 σ H2 v y u w3 _ I3 ru ry q3) fun w4 s4 ⟨z, H3, I4, rz, dx', fs', ea', l', q4⟩ => ?_
  exact setattr_ok I4 ea' c n l' rz fun s5 I5 => ⟨σ, _, I5, q4⟩
def rAdd : V → V → Hp → VK → Prop := fun x y H Q => ∃ i j, x = .int i ∧ y = .int j ∧ Q (.int (i + j)) H
theorem in_add : InOp X .Add rAdd := by
  rintro pins s σ H x y u v Q I rx ry ⟨i, j, rfl, rfl, q⟩
  obtain ⟨t, rfl⟩ := (show ∃ t, u = Value.int i t from rx)
  obtain ⟨t', rfl⟩ := (show ∃ t', v = Value.int j t' from ry)
  exact PyProof.Rows.iadd_int ⟨.int (i + j), H, I.tok _, ⟨_, rfl⟩, q⟩
end

section
variable {X : Cx} {pins : List (Addr × Obj)} {σ : St} {H : Hp} {s : Shared} {A : Around} {E : Value → Shared → Prop} {Q : Value → Shared → Prop} {c : Value} {b : Bool}
inductive TyOf (K : PySem.W.Frag) (H : Hp) : V → Value → Prop where
  | non : TyOf K H .non (.type "NoneType")
  | bl (x : Bool) : TyOf K H (.bl x) (.type "bool")
  | int (i : Int) : TyOf K H (.int i) (.type "int")
  | str (x : Str) : TyOf K H (.str x) (.type "str")
  | flt (x : UInt64) : TyOf K H (.flt x) (.type "float")
  | lst {a : Addr} {xs : List V} (e : H a = some (.lst xs)) : TyOf K H (.ref a) (.type "list")
  | frz {a : Addr} {o : Obj} {xs : List V} (e : H a = some (.frz o (.lst xs))) : TyOf K H (.ref a) (.type "list")
  | tup {a : Addr} {xs : List V} (e : H a = some (.tup xs)) : TyOf K H (.ref a) (.type "tuple")
  | dK {a : Addr} {kvs : List (Key × V)} (e : H a = some (.dK kvs)) : TyOf K H (.ref a) (.type "dict")
  | dT {a : Addr} {kvs : List (List Key × V)} (e : H a = some (.dT kvs)) : TyOf K H (.ref a) (.type "dict")
  | ins {a C dx : Addr} {fs : List (Str × V)} (e : H a = some (.ins C dx fs)) (cl : Cls K C) (ha : PySem.W.findIn K (.ref C) "__class__" = some (some (.builtin "object.__class__")))
      (hn : PySem.W.specialIn K (.builtin "object.__class__") "__get__" = some (some (.builtin "getset_descriptor.__get__"))) (htk : PySem.W.takesIn K (.builtin "object.__class__") = some true)
      (hm : PySem.W.mroIn K C (.type "object") = some true) : TyOf K H (.ref a) (.ref C)
theorem isinst_ok {x : V} {u t : Value} (I : Inv X pins σ H s) (rx : RelV x u) (ty : TyOf X.K H x t) (e : PySem.W.kitOne X.K t c = some b) (h : ∀ tk, Q (.bool b) { s with toks := tk }) :
    wpAny (model X.prog X.w) A (call (.builtin "isinstance") [u, c]) Q E s := by
  cases ty with
  | non => cases (show u = Value.none from rx); exact PySem.W.kia_one PySem.W.kitx_none I.kIn True.intro e (fun z => nomatch z) h
  | bl y => cases (show u = Value.bool y from rx); exact PySem.W.kia_one PySem.W.kitx_bool I.kIn True.intro e (fun z => nomatch z) h
  | int i => obtain ⟨t, q⟩ := (show ∃ t, u = Value.int i t from rx); cases q; exact PySem.W.kia_one PySem.W.kitx_int I.kIn True.intro e (fun z => nomatch z) h
  | str y => obtain ⟨t, q⟩ := (show ∃ t, u = Value.str y t from rx); cases q; exact PySem.W.kia_one PySem.W.kitx_str I.kIn True.intro e (fun z => nomatch z) h
  | flt y => obtain ⟨t, q⟩ := (show ∃ t, u = Value.float y t from rx); cases q; exact PySem.W.kia_one PySem.W.kitx_float I.kIn True.intro e (fun z => nomatch z) h
  | @lst a xs ea =>
    cases (show u = Value.ref a from rx)
    obtain ⟨_, _, n, _, h1⟩ := (show ObjOk X.prog X.w H s.heap a (.lst xs) from I.hok a _ ea)
    exact PySem.W.kia_one PySem.W.kitx_list I.kIn ⟨_, h1, rfl⟩ e (fun z => nomatch z) h
  | @frz a ob xs ea =>
    cases (show u = Value.ref a from rx)
    obtain ⟨_, _, _, n, _, h1⟩ := (show ObjOk X.prog X.w H s.heap a (.frz ob (.lst xs)) from I.hok a _ ea)
    exact PySem.W.kia_one PySem.W.kitx_list I.kIn ⟨_, h1, rfl⟩ e (fun z => nomatch z) h
  | @tup a xs ea =>
    cases (show u = Value.ref a from rx)
    obtain ⟨_, _, _, p⟩ := (show ObjOk X.prog X.w H s.heap a (.tup xs) from I.hok a _ ea)
    obtain ⟨o, h1, h2, _⟩ := p
    exact PySem.W.kia_one PySem.W.kitx_tuple I.kIn ⟨o, h1, h2⟩ e (fun z => nomatch z) h
  | @dK a kvs ea =>
    cases (show u = Value.ref a from rx)
    obtain ⟨_, _, vs, _, p⟩ := (show ObjOk X.prog X.w H s.heap a (.dK kvs) from I.hok a _ ea)
    obtain ⟨o, es, ep, h1, h2, _⟩ := p
    exact PySem.W.kia_one PySem.W.kitx_dict I.kIn ⟨o, h1, h2.1⟩ e (fun z => nomatch z) h
  | @dT a kvs ea =>
    cases (show u = Value.ref a from rx)
    obtain ⟨_, _, xs, _, o, es, ep, h1, h2, _⟩ := (show ObjOk X.prog X.w H s.heap a (.dT kvs) from I.hok a _ ea)
    exact PySem.W.kia_one PySem.W.kitx_dict I.kIn ⟨o, h1, h2.1⟩ e (fun z => nomatch z) h
  | @ins a C dx fs ea cl ha hn htk hm =>
    cases (show u = Value.ref a from rx)
    obtain ⟨mA, O, _⟩ := ins_get I.hok ea
    obtain ⟨od, J, _⟩ := O.look
    exact PySem.W.kia_one (PySem.W.kitx_own (cl.get _) cl.hd ha hn htk hm) I.kIn J e (fun z => nomatch z) h
end
end L2

namespace L2
open PySem PySem.Spec PyProof.Rows

structure Room (k : Nat) (A : Around) : Prop where
  hd : A.handled = none
  dp : A.depth + 3 * k + 5 < recursionLimit
  un : A.units + 16 * k + 200 < cLine
theorem Room.mono {j k : Nat} {A : Around} (r : Room k A) (h : j ≤ k) : Room j A := ⟨r.hd, by have := r.dp; omega, by have := r.un; omega⟩
theorem Room.deeper {k : Nat} {A : Around} (r : Room (k + 1) A) (env : Env) : Room k (A.deeper env) :=
  ⟨r.hd, by have := r.dp; show A.depth + 1 + 3 * k + 5 < _; omega, by have := r.un; show A.units + 3 + 16 * k + 200 < _; omega⟩
theorem Room.in1 {k : Nat} {A : Around} (r : Room (k + 1) A) : Room k A.in1 :=
  ⟨r.hd, by have := r.dp; show A.depth + 3 * k + 5 < _; omega, by have := r.un; show A.units + 1 + 16 * k + 200 < _; omega⟩
theorem make_depth {A : Around} {C : Addr} {us : List Value} {kw : List (Str × Value)} : (A.under (.builtin "type.__call__" ⟨.ref C :: us, kw⟩)).depth = A.depth + 1 := by
  first | rfl | simp [Around.under, Code.weight, Code.isCreation, Code.isGuard, Code.isCaller, Code.frames, Code.isFrame, guardIds]
theorem make_units {A : Around} {C : Addr} {us : List Value} {kw : List (Str × Value)} : (A.under (.builtin "type.__call__" ⟨.ref C :: us, kw⟩)).units = A.units + 1 := by
  first | rfl | simp [Around.under, Code.cUnits, Code.frames, Code.isFrame]
theorem Room.make {k : Nat} {A : Around} (r : Room (k + 1) A) (C : Addr) (us : List Value) (kw : List (Str × Value)) : Room k (A.under (.builtin "type.__call__" ⟨.ref C :: us, kw⟩)) :=
  ⟨r.hd, by have := r.dp; rw [make_depth]; omega, by have := r.un; rw [make_units]; omega⟩
theorem Room.depth {k : Nat} {A : Around} (r : Room k A) : A.depth < recursionLimit := by have := r.dp; omega
theorem Room.units {k : Nat} {A : Around} (r : Room k A) : A.units + 64 < cLine := by have := r.un; omega
def tNil : TA := fun _ H Q => Q [] H
def tCons (ta : TE) (tr : TA) : TA := fun σ H Q => ta σ H fun x H1 => tr σ H1 fun xs H2 => Q (x :: xs) H2
section
variable {X : Cx} {e : Expr} {es : List Expr} {te : TE} {t : TA} {pos : Pos}
theorem pa_nil : PA X [] tNil := fun _ _ _ _ H Q I h => Calls.spliced_nil ⟨[], H, I, .nil, h⟩
theorem pa_cons (ha : PE X e te) (hr : PA X es t) (hs : starEach (e :: es) X.env = (false, eval e X.env) :: starEach es X.env := by rfl) : PA X (e :: es) (tCons te t) := by
  intro pos pins s σ H Q I h
  rw [hs]
  show wpAny _ _ (spliced ((false, eval e X.env) :: backTo pos (starEach es X.env))) _ _ s
  refine Calls.spliced_cons (thn (ha pins s σ H _ I h) fun u s1 ⟨x, H1, I1, r1, q1⟩ => ?_)
  exact thn (hr pos pins s1 σ H1 _ I1 q1) fun us s2 ⟨xs, H2, I2, r2, q2⟩ => ⟨x :: xs, H2, I2, .cons r1 r2, q2⟩

def tTup (t : TA) : TE := fun σ H Q => t σ H fun xs H1 => xs.length ≤ sizeLine ∧ ∀ p, H1 p = none → Q (.ref p) (upd H1 p (.tup xs))
def tLst (t : TA) : TE := fun σ H Q => t σ H fun xs H1 => xs.length ≤ sizeLine ∧ ∀ p, H1 p = none → Q (.ref p) (upd H1 p (.lst xs))
theorem pe_tup {x1} (h : PA X es t) : PE X (.Tuple es x1 pos) (tTup t) := by
  intro pins s σ H Q I hq
  refine wpAny_Tuple_spliced (thn (h pos pins s σ H _ I hq) fun us s1 ⟨xs, H1, I1, r, z, q⟩ => ⟨by rw [← r.length]; exact z, ?_⟩)
  have hf : H1 s1.heap.objs.size = none := I1.hok.fresh (Nat.le_refl _)
  refine ⟨.ref s1.heap.objs.size, upd H1 s1.heap.objs.size (.tup xs), I1.laid (t' := s1.toks) (fun b u e => Heap.get?_push_of_some _ e) (Nat.le_refl _) ?_, rfl, q _ hf⟩
  exact ⟨z, us, r, ⟨_, Heap.get?_push_size _ rfl, rfl, _, rfl⟩⟩
theorem pe_lst (h : PA X es t) : PE X (.List es pos) (tLst t) := by
  intro pins s σ H Q I hq
  refine wpAny_List_spliced (thn (h pos pins s σ H _ I hq) fun us s1 ⟨xs, H1, I1, r, z, q⟩ => ⟨by rw [← r.length]; exact z, ?_⟩)
  have hf : H1 s1.heap.objs.size = none := I1.hok.fresh (Nat.le_refl _)
  refine ⟨.ref s1.heap.objs.size, upd H1 s1.heap.objs.size (.lst xs), I1.laid (t' := s1.toks) (fun b u e => Heap.get?_push_of_some _ e) (Nat.le_refl _) ?_, rfl, q _ hf⟩
  exact ⟨z, us, 0, r, Heap.get?_push_size _ rfl⟩
end

abbrev Sp := List V → Hp → VK → XK → Prop
abbrev CXT := List Env → Hp → Shared → XK → Value → Shared → Prop

structure Env0 (P : Program) (w : World) (K : PySem.W.Frag) (mg : Str → Option Value) (base : Heap) (A : Around) (outer : List Env) (s : Shared) (H : Hp) : Prop where
  frames : A.frames = some outer
  mod : Mod K mg base
  bs : ∀ b o, base.get? b = some o → s.heap.get? b = some o ∧ H b = none
  bsz : base.objs.size ≤ s.heap.objs.size
  funs : s.heap.FunFrames base outer
  frf : ∀ b ∈ frs outer, H b = none
  hok : HOk P w H s.heap
  bare : AllBare s.gens
def CE (outer : List Env) (P : Program) (w : World) (H : Hp) (s : Shared) (Q : VK) (u : Value) (s' : Shared) : Prop :=
  ∃ v H', s'.os = s.os ∧ AllBare s'.gens ∧ Un (frs outer) [] H H' s.heap s'.heap ∧ HOk P w H' s'.heap ∧ RelV v u ∧ Q v H'
def CR (CX : CXT) (outer : List Env) (P : Program) (w : World) (H : Hp) (s : Shared) (Q : VK) (E : XK) (r : Result) (s' : Shared) : Prop :=
  match r with
  | .ok (.ret u) => CE outer P w H s Q u s'
  | .ok _ => False
  | .error e => CX outer H s E e s'
structure FnOk (P : Program) (w : World) (K : PySem.W.Frag) (mg : Str → Option Value) (base : Heap) (CX : CXT) (k : Nat) (f : Addr) (fd : FuncData) (ps : List Str) (sp : Sp) : Prop where
  len : ∀ vs H Q E, sp vs H Q E → vs.length = ps.length
  run : ∀ (A : Around) (outer : List Env) (s : Shared) (H : Hp) (args : Args) (us : List Value) (vs : List V) (Q : VK) (E : XK), Room k A → Env0 P w K mg base A outer s H → BindsTo s fd args (ps.zip us) → Vals vs us → sp vs H Q E →
    codeAny (model P w) A (.call (.ref f) args) (CR CX outer P w H s Q E) s
theorem FnOk.mono {P : Program} {w : World} {K : PySem.W.Frag} {mg : Str → Option Value} {base : Heap} {CX : CXT} {j k : Nat} {f : Addr} {fd : FuncData} {ps : List Str} {sp : Sp} (F : FnOk P w K mg base CX j f fd ps sp) (h : j ≤ k) :
    FnOk P w K mg base CX k f fd ps sp := ⟨F.len, fun A outer s H args us vs Q E hr => F.run A outer s H args us vs Q E (hr.mono h)⟩
theorem FnOk.imp {P : Program} {w : World} {K : PySem.W.Frag} {mg : Str → Option Value} {base : Heap} {CX : CXT} {k : Nat} {f : Addr} {fd : FuncData} {ps : List Str} {sp sp' : Sp} (F : FnOk P w K mg base CX k f fd ps sp)
    (h : ∀ vs H Q E, sp' vs H Q E → sp vs H Q E) : FnOk P w K mg base CX k f fd ps sp' :=
  ⟨fun vs H Q E q => F.len vs H Q E (h _ _ _ _ q), fun A outer s H args us vs Q E hr he hb hv hs => F.run A outer s H args us vs Q E hr he hb hv (h _ _ _ _ hs)⟩

theorem Env0.make {P : Program} {w : World} {K : PySem.W.Frag} {mg : Str → Option Value} {base : Heap} {A : Around} {outer : List Env} {s : Shared} {H : Hp} (e : Env0 P w K mg base A outer s H) (C : Addr) (us : List Value) (kw : List (Str × Value)) :
    Env0 P w K mg base (A.under (.builtin "type.__call__" ⟨.ref C :: us, kw⟩)) outer s H := ⟨by first | exact e.frames | (simpa [Around.under, Code.envs, Code.isFrame, pushEnvs] using e.frames), e.mod, e.bs, e.bsz, e.funs, e.frf, e.hok, e.bare⟩
theorem Env0.in1 {P : Program} {w : World} {K : PySem.W.Frag} {mg : Str → Option Value} {base : Heap} {A : Around} {outer : List Env} {s : Shared} {H : Hp} (e : Env0 P w K mg base A outer s H) :
    Env0 P w K mg base A.in1 outer s H := ⟨e.frames, e.mod, e.bs, e.bsz, e.funs, e.frf, e.hok, e.bare⟩

section
variable {X : Cx} {pins : List (Addr × Obj)} {σ : St} {H : Hp} {s s' : Shared}
theorem Inv.env0 (I : Inv X pins σ H s) : Env0 X.prog X.w X.K X.mg X.base X.A X.stack s H :=
  ⟨I.ok.frames, I.ok.mod, I.bs, Nat.le_trans I.ok.bsz I.sz, I.stack, I.stkFree, I.hok, I.bare⟩
theorem Inv.after {Q : VK} {u : Value} (I : Inv X pins σ H s) (h : CE X.stack X.prog X.w H s Q u s') : EP X pins σ Q u s' := by
  obtain ⟨v, H', os, bare, un, hok, r, q⟩ := h
  obtain ⟨hh, g, d, t, os'⟩ := s'
  obtain rfl : os' = s.os := os
  exact ⟨v, H', I.call (h' := hh) (g' := g) (d' := d) (t' := t) (ch := []) un hok bare (fun b z => absurd z (by simp)), r, q⟩
end

def tCall (sp : Sp) (dvs : List V) (E : XK) (t : TA) : TE := fun σ H Q => t σ H fun vs H1 => sp (vs ++ dvs) H1 Q E
def tMeth (C : Addr) (m : Str) (sp : Sp) (dvs : List V) (E : XK) (ta : TE) (t : TA) : TE := fun σ H Q => ta σ H fun x H1 => ∃ a dx fs, x = .ref a ∧ H1 a = some (.ins C dx fs) ∧ fs.lookup m = none ∧
  t σ H1 fun vs H2 => sp (x :: (vs ++ dvs)) H2 Q E
def tMake (C : Addr) (sp : Sp) (dvs : List V) (E : XK) (t : TA) : TE := fun σ H Q => t σ H fun vs H1 => ∀ x dx, H1 x = none → H1 dx = none → dx ≠ x →
  sp (.ref x :: (vs ++ dvs)) (upd (upd H1 dx (.own x)) x (.ins C dx [])) (fun v H2 => v = .non ∧ Q (.ref x) H2) E

def Binds (K : PySem.W.Frag) (fd : FuncData) (ps : List Str) (ds : List Value) : Prop :=
  ∀ (s : Shared) (us : List Value), K.In s.heap → (us ++ ds).length = ps.length → BindsTo s fd ⟨us, []⟩ (ps.zip (us ++ ds))
theorem Binds.all {K : PySem.W.Frag} {fd : FuncData} {ps : List Str} (h : ∀ us : List Value, us.length = ps.length → bindArgs fd ⟨us, []⟩ = pure (ps.zip us)) : Binds K fd ps [] := fun s us _ hl => by
  rw [List.append_nil] at hl ⊢
  exact .of_eq (h us hl)

def Passes (CX : CXT) (X : Cx) (E : XK) : Prop := ∀ (pins : List (Addr × Obj)) (σ : St) (H : Hp) (s : Shared) (e : Value) (s' : Shared), Inv X pins σ H s → CX X.stack H s E e s' → X.xe e s'

section
variable {X : Cx} {CX : CXT} {k : Nat} {f C : Addr} {fd : FuncData} {ps : List Str} {sp : Sp} {dvs : List V} {ds : List Value} {E : XK} {x m : Str} {p pos apos : Pos} {e o : Expr} {es : List Expr} {ta : TE} {t : TA}

theorem run_fn {pins : List (Addr × Obj)} {σ : St} {H : Hp} {s : Shared} {Q : VK} {us : List Value} {vs : List V} (F : FnOk X.prog X.w X.K X.mg X.base CX k f fd ps sp) (hr : Room k X.A) (hb : Binds X.K fd ps ds) (hd : Vals dvs ds) (hx : Passes CX X E)
    (I : Inv X pins σ H s) (r : Vals vs us) (h : sp (vs ++ dvs) H Q E) : wpAny (model X.prog X.w) X.A (call (.ref f) us) (EP X pins σ Q) X.xe s := by
  have r2 : Vals (vs ++ dvs) (us ++ ds) := r.append hd
  have hl : (us ++ ds).length = ps.length := by rw [← r2.length]; exact F.len _ _ _ _ h
  refine wpAny_call (codeAny_mono (F.run X.A X.stack s H ⟨us, []⟩ (us ++ ds) (vs ++ dvs) Q E hr I.env0 (hb s us I.kIn hl) r2 h) fun r s' hq => ?_)
  cases r with
  | error e => exact hx pins σ H s e s' I hq
  | ok fl =>
    cases fl with
    | ret u => exact I.after hq
    | next => exact False.elim hq
    | brk => exact False.elim hq
    | cont => exact False.elim hq

theorem pe_call (F : FnOk X.prog X.w X.K X.mg X.base CX k f fd ps sp) (hr : Room k X.A) (hg : Gl X x) (hm : X.mg x = some (.ref f)) (hk : PySem.W.keepIn X.K (.ref f) = true) (hb : Binds X.K fd ps ds) (hd : Vals dvs ds) (hx : Passes CX X E)
    (ha : PA X (e :: es) t) (hdb : (x == ("__debug__" : Str)) = false := by decide) (he : starEach (e :: es) X.env = (false, eval e X.env) :: starEach es X.env := by rfl) (hpl : (backTo pos (starEach es X.env)).any (·.1) = false := by rfl) :
    PE X (.Call (.Name x p) (e :: es) [] pos) (tCall sp dvs E t) := by
  intro pins s σ H Q I h
  refine wpAny_Call_Name_kw (ld_glob I hg hm ?_ hdb)
  refine PySem.W.callWith_K (h₀ := X.base) I.ok.mod.kin hk (thn (ha pos pins s σ H _ I h) fun us s1 ⟨vs, H1, I1, r, q⟩ => ⟨I1.kIn, ?_⟩) he hpl
  exact run_fn F hr hb hd hx I1 r q
theorem pe_meth {pl : Sem Bool} (he : PE X o ta) (c : Cls X.K C) (hm : Meth X.K C m f) (F : FnOk X.prog X.w X.K X.mg X.base CX k f fd ps sp) (hr : Room k X.A) (hb : Binds X.K fd ps ds) (hd : Vals dvs ds) (hx : Passes CX X E) (ha : PA X (e :: es) t)
    (hst : starEach (e :: es) X.env = (false, eval e X.env) :: starEach es X.env := by rfl) (hpl : (backTo pos (starEach es X.env)).any (·.1) = false := by rfl)
    (ht : eval (.Call (.Attribute o m apos) (e :: es) [] pos) X.env = (do
      let ov ← eval o X.env
      standAt apos.atName
      let (f, first) ← holding [ov] (getMethod ov m pl)
      callWith pos f first (backTo pos (starEach (e :: es) X.env)) (backToKw pos (keywordEach [] X.env))) := by rfl) :
    PE X (.Call (.Attribute o m apos) (e :: es) [] pos) (tMeth C m sp dvs E ta t) := by
  intro pins s σ H Q I h
  refine PySem.W.methodCall_KW (pl := pl) (thn (he pins s σ H _ I h) fun u s1 ⟨x, H1, I1, rx, a, dx, fs, ex, ea, l, q⟩ => ?_) ht
  subst ex
  obtain rfl : u = Value.ref a := rx
  refine getmeth_ok I1 ea c hm l ?_
  refine PySem.W.callWith_K (first := [.ref a]) (h₀ := X.base) I.ok.mod.kin hm.kp (thn (ha pos pins s1 σ H1 _ I1 q) fun us s2 ⟨vs, H2, I2, r, q2⟩ => ⟨I2.kIn, ?_⟩) hst hpl
  exact run_fn (us := .ref a :: us) (vs := .ref a :: vs) F hr hb hd hx I2 (.cons rfl r) q2
theorem pe_meth0 {pl : Sem Bool} (he : PE X o ta) (c : Cls X.K C) (hm : Meth X.K C m f) (F : FnOk X.prog X.w X.K X.mg X.base CX k f fd ps sp) (hr : Room k X.A) (hb : Binds X.K fd ps ds) (hd : Vals dvs ds) (hx : Passes CX X E)
    (ht : eval (.Call (.Attribute o m apos) [] [] pos) X.env = (do
      let ov ← eval o X.env
      standAt apos.atName
      let (f, first) ← holding [ov] (getMethod ov m pl)
      callWith pos f first (backTo pos (starEach [] X.env)) (backToKw pos (keywordEach [] X.env))) := by rfl) :
    PE X (.Call (.Attribute o m apos) [] [] pos) (tMeth C m sp dvs E ta tNil) := by
  intro pins s σ H Q I h
  refine PySem.W.methodCall_KW (pl := pl) (thn (he pins s σ H _ I h) fun u s1 ⟨x, H1, I1, rx, a, dx, fs, ex, ea, l, q⟩ => ?_) ht
  subst ex
  obtain rfl : u = Value.ref a := rx
  refine getmeth_ok I1 ea c hm l ?_
  exact PySem.W.callWith_K0 (first := [.ref a]) I1.kIn hm.kp (run_fn (us := [.ref a]) (vs := [.ref a]) F hr hb hd hx I1 (.cons rfl .nil) q)

structure Mk (K : PySem.W.Frag) (C f : Addr) : Prop where
  makes : PySem.W.makesIn K C = true
  init : PySem.W.findIn K (.ref C) "__init__" = some (some (.ref f))
  fn : PySem.W.isFn K (.ref f) = true
  kp : PySem.W.keepIn K (.ref C) = true

theorem run_make {pins : List (Addr × Obj)} {σ : St} {H : Hp} {s : Shared} {Q : VK} {us : List Value} {vs : List V} (M : Mk X.K C f) (F : FnOk X.prog X.w X.K X.mg X.base CX k f fd ps sp) (hr : Room (k + 1) X.A) (hb : Binds X.K fd ps ds) (hd : Vals dvs ds)
    (hx : Passes CX X E) (I : Inv X pins σ H s) (r : Vals vs us)
    (h : ∀ x dx, H x = none → H dx = none → dx ≠ x → sp (.ref x :: (vs ++ dvs)) (upd (upd H dx (.own x)) x (.ins C dx [])) (fun v H2 => v = .non ∧ Q (.ref x) H2) E) :
    wpAny (model X.prog X.w) X.A (call (.ref C) us) (EP X pins σ Q) X.xe s := by
  have hq := h (s.heap.objs.size + 1) s.heap.objs.size (I.hok.fresh (Nat.le_succ _)) (I.hok.fresh (Nat.le_refl _)) (Nat.ne_of_lt (Nat.lt_succ_self _))
  have I2 := Inv.made (C := C) I
  have r2 : Vals (V.ref (s.heap.objs.size + 1) :: (vs ++ dvs)) (Value.ref (s.heap.objs.size + 1) :: (us ++ ds)) := .cons rfl (r.append hd)
  have hl : (Value.ref (s.heap.objs.size + 1) :: us ++ ds).length = ps.length := by
    have e := r2.length
    rw [F.len _ _ _ _ hq] at e
    exact e.symm
  refine wpAny_call (make_map (f := f) I.kIn M.makes M.init (beq_iff_eq.mp M.fn) (codeAny_mono (F.run _ X.stack _ _ ⟨Value.ref (s.heap.objs.size + 1) :: us, []⟩ (Value.ref (s.heap.objs.size + 1) :: (us ++ ds)) _ _ E (hr.make C us [])
    (I2.env0.make C us []) (hb _ (Value.ref (s.heap.objs.size + 1) :: us) I2.kIn hl) r2 hq) fun r s' hq' => ?_))
  cases r with
  | error e => exact hx pins σ _ _ e s' I2 hq'
  | ok fl =>
    cases fl with
    | ret u =>
      obtain ⟨v, H', I3, rv, ev, q3⟩ := I2.after hq'
      subst ev
      exact ⟨rv, ⟨V.ref (s.heap.objs.size + 1), H', I3, rfl, q3⟩⟩
    | next => exact False.elim hq'
    | brk => exact False.elim hq'
    | cont => exact False.elim hq'
theorem pe_make (M : Mk X.K C f) (F : FnOk X.prog X.w X.K X.mg X.base CX k f fd ps sp) (hr : Room (k + 1) X.A) (hg : Gl X x) (hm : X.mg x = some (.ref C)) (hb : Binds X.K fd ps ds) (hd : Vals dvs ds) (hx : Passes CX X E)
    (ha : PA X (e :: es) t) (hdb : (x == ("__debug__" : Str)) = false := by decide) (he : starEach (e :: es) X.env = (false, eval e X.env) :: starEach es X.env := by rfl) (hpl : (backTo pos (starEach es X.env)).any (·.1) = false := by rfl) :
    PE X (.Call (.Name x p) (e :: es) [] pos) (tMake C sp dvs E t) := by
  intro pins s σ H Q I h
  refine wpAny_Call_Name_kw (ld_glob I hg hm ?_ hdb)
  refine PySem.W.callWith_K (h₀ := X.base) I.ok.mod.kin M.kp (thn (ha pos pins s σ H _ I h) fun us s1 ⟨vs, H1, I1, r, q⟩ => ⟨I1.kIn, ?_⟩) he hpl
  exact run_make M F hr hb hd hx I1 r q
end

def PK (X : Cx) (kws : List Keyword) (t : TA) : Prop :=
  ∀ (pos : Pos) (pins : List (Addr × Obj)) (s : Shared) (σ : St) (H : Hp) (Q : List V → Hp → Prop), Inv X pins σ H s → t σ H Q → wpAny (model X.prog X.w) X.A (evalAll ((backToKw pos (keywordEach kws X.env)).map (·.2))) (AP X pins σ Q) X.xe s
section
variable {X : Cx} {CX : CXT} {k : Nat} {f C : Addr} {fd : FuncData} {ps ks : List Str} {sp : Sp} {E : XK} {x m : Str} {p pos apos kpos : Pos} {e o : Expr} {es : List Expr} {kws : List Keyword} {te ta : TE} {t tk : TA} {nm : Option Str}
theorem pk_nil : PK X [] tNil := fun _ _ _ _ H Q I h => wpAny_evalAll_nil ⟨[], H, I, .nil, h⟩
theorem pk_cons (ha : PE X e te) (hr : PK X kws t) : PK X (⟨nm, e, kpos⟩ :: kws) (tCons te t) := by
  intro pos pins s σ H Q I h
  show wpAny _ _ (evalAll ((do let v ← eval e X.env; standAt pos; pure v) :: (backToKw pos (keywordEach kws X.env)).map (·.2))) _ _ s
  refine wpAny_evalAll_cons (wpAny_bind (thn (ha pins s σ H _ I h) fun u s1 ⟨x, H1, I1, r1, q1⟩ => wpAny_bind (wpAny_standAt (wpAny_pure ?_))))
  exact thn (hr pos pins s1 σ H1 _ I1 q1) fun us s2 ⟨xs, H2, I2, r2, q2⟩ => ⟨x :: xs, H2, I2, .cons r1 r2, q2⟩

variable {g : List Value → List Value → List Value} {gV : List V → List V → List V}
end

structure FnScope (N P : List Str) (sc : Scope) : Prop where
  kind : sc.kind = .function
  co : sc.isCoroutine = false
  gen : sc.isGenerator = false
  nd : N.Nodup
  pre : N.take P.length = P
  par : ∀ x ∈ P, sc.names.lookup x = some .local ∨ sc.names.lookup x = some .cell
  nofree : ∀ y ∈ sc.names, y.2 ≠ .free

theorem bindL_out {kindOf : Str → Option NameKind} {x : Str} : ∀ {binds : List (Str × Value)} {m : Str → Option Value}, (∀ v, (x, v) ∉ binds) → bindL kindOf binds m x = m x
  | [], _, _ => rfl
  | (n, v) :: r, m, h => by
    unfold bindL
    rw [bindL_out fun w hw => h w (List.mem_cons_of_mem _ hw)]
    split
    · have : x ≠ n := by rintro rfl; exact h v List.mem_cons_self
      simp [this]
    · rfl
theorem bindC_out {kindOf : Str → Option NameKind} {x : Str} : ∀ {binds : List (Str × Value)} {m : Str → Option Value}, (∀ v, (x, v) ∉ binds) → bindC kindOf binds m x = m x
  | [], _, _ => rfl
  | (n, v) :: r, m, h => by
    unfold bindC
    rw [bindC_out fun w hw => h w (List.mem_cons_of_mem _ hw)]
    split
    · rfl
    · have : x ≠ n := by rintro rfl; exact h v List.mem_cons_self
      simp [this]
theorem bindL_get {kindOf : Str → Option NameKind} {x : Str} {v : Value} : ∀ {P : List Str} {vs : List Value} {i : Nat} {m : Str → Option Value}, P.Nodup → P[i]? = some x → vs[i]? = some v → kindOf x = some .local →
    bindL kindOf (P.zip vs) m x = some v
  | [], _, _, _, _, h, _, _ => by simp at h
  | _ :: _, [], _, _, _, _, h, _ => by simp at h
  | p :: P, w :: vs, 0, m, nd, h1, h2, hk => by
    simp at h1 h2; subst h1; subst h2
    show bindL kindOf ((p, w) :: P.zip vs) m p = _
    unfold bindL
    rw [bindL_out fun v hv => (List.nodup_cons.mp nd).1 (List.of_mem_zip hv).1, if_pos hk]
    simp
  | p :: P, w :: vs, i + 1, m, nd, h1, h2, hk => by
    show bindL kindOf ((p, w) :: P.zip vs) m x = _
    unfold bindL
    exact bindL_get (i := i) (List.nodup_cons.mp nd).2 (by simpa using h1) (by simpa using h2) hk
theorem bindC_get {kindOf : Str → Option NameKind} {x : Str} {v : Value} : ∀ {P : List Str} {vs : List Value} {i : Nat} {m : Str → Option Value}, P.Nodup → P[i]? = some x → vs[i]? = some v → kindOf x ≠ some .local →
    bindC kindOf (P.zip vs) m x = some v
  | [], _, _, _, _, h, _, _ => by simp at h
  | _ :: _, [], _, _, _, _, h, _ => by simp at h
  | p :: P, w :: vs, 0, m, nd, h1, h2, hk => by
    simp at h1 h2; subst h1; subst h2
    show bindC kindOf ((p, w) :: P.zip vs) m p = _
    unfold bindC
    rw [bindC_out fun v hv => (List.nodup_cons.mp nd).1 (List.of_mem_zip hv).1, if_neg hk]
    simp
  | p :: P, w :: vs, i + 1, m, nd, h1, h2, hk => by
    show bindC kindOf ((p, w) :: P.zip vs) m x = _
    unfold bindC
    exact bindC_get (i := i) (List.nodup_cons.mp nd).2 (by simpa using h1) (by simpa using h2) hk

def start (N : List Str) (vs : List V) : St := vs.map some ++ List.replicate (N.length - vs.length) none

def cxOf (CX : CXT) (P : Program) (w : World) (K : PySem.W.Frag) (mg : Str → Option Value) (base : Heap) (N : List Str) (qual : Str) (scope : Scope) (f : Addr) (cd : Value) (A : Around) (outer : List Env) (s : Shared) (H : Hp) (E : XK) : Cx where
  prog := P
  w := w
  K := K
  mg := mg
  base := base
  A := A.deeper (envOfC qual scope s.heap.objs.size f cd)
  N := N
  s₀ := s
  H₀ := H
  env := envOfC qual scope s.heap.objs.size f cd
  outer := outer
  stack := envOfC qual scope s.heap.objs.size f cd :: outer
  ex := []
  calm := true
  fn := fun _ => true
  pn := []
  xe := fun e s' => wpAny (model P w) (A.deeper (envOfC qual scope s.heap.objs.size f cd)) (leaving (envOfC qual scope s.heap.objs.size f cd) e) (fun _ s'' => CX outer H s E e s'') (fun e' s'' => CX outer H s E e' s'') s'

theorem cell_has {sc : Scope} {n : Nat} {x : Str} (h : sc.names.lookup x = some .cell) : ∃ c, (cellsFrom n sc.names []).lookup x = some c := by
  have q := PySem.W.cellsFrom_some sc.names n [] (.inl h)
  exact Option.isSome_iff_exists.mp q

theorem inv_start {CX : CXT} {P : Program} {w : World} {K : PySem.W.Frag} {mg : Str → Option Value} {base : Heap} {N ps : List Str} {qual : Str} {scope : Scope} {f : Addr} {cd : Value} {A : Around} {outer : List Env} {s s1 : Shared} {H : Hp} {E : XK} {us : List Value} {vs : List V}
    (S : FnScope N ps scope) (hd : A.handled = none) (e0 : Env0 P w K mg base A outer s H) (hl : vs.length = ps.length) (r : Vals vs us)
    (x : InCallC s s.heap.objs.size (bindL (envOfC qual scope s.heap.objs.size f cd).kindOf (ps.zip us) fun _ => none) (cellsFrom (s.heap.objs.size + 1) scope.names []) (bindC (envOfC qual scope s.heap.objs.size f cd).kindOf (ps.zip us) fun _ => none) s1) :
    Inv (cxOf CX P w K mg base N qual scope f cd A outer s H E) [] (start N vs) H s1 := by
  have hpl : ps.length ≤ N.length := by have := congrArg List.length S.pre; rw [List.length_take] at this; omega
  obtain ⟨h1, tk, rfl, hk⟩ := x.done
  have noA : ∀ b : Addr, b ∉ (cxOf CX P w K mg base N qual scope f cd A outer s H E).ex := fun b z => absurd (show b ∈ ([] : List Addr) from z) (by simp)
  refine ⟨⟨e0.mod, S.kind, rfl, rfl, Nat.le_refl _, fun y z c h1 h2 => ?_, fun y hy => ?_, fun y c _ h => ?_, fun _ => hd, Around.frames_deeper e0.frames, .inr ⟨rfl, rfl⟩, fun b z => absurd z (noA b), e0.bs, e0.bsz, fun b _ _ => noA b, fun b z => absurd z (noA b), e0.funs, e0.frf⟩,
    rfl, e0.bare, Un.kept hk, ⟨_, x.toInCall.ns, fun i y v h1 h2 h3 => ?_⟩, fun y c h => ⟨_, x.cell y c h⟩, e0.hok.fresh (Nat.le_refl _), fun y c h => ?_, fun p hp => absurd (show p ∈ ([] : List (Addr × Obj)) from hp) (by simp), e0.hok.kept hk, ?_⟩
  · exact name_of_addr x.apart (PySem.mem_of_lookup h1) (PySem.mem_of_lookup h2)
  · have hy : scope.names.lookup y = some .cell ∨ scope.names.lookup y = some .free := hy
    rcases hy with hy | hy
    · exact cell_has hy
    · exact absurd rfl (S.nofree _ (PySem.mem_of_lookup hy))
  · exact Nat.le_of_lt (x.above y c (PySem.mem_of_lookup h))
  · have hi : i < vs.length := by
      unfold start at h2
      by_cases hi : i < vs.length
      · exact hi
      · rw [List.getElem?_append_right (by simpa using hi)] at h2
        rw [List.getElem?_replicate] at h2
        split at h2 <;> cases h2
    have ha : vs[i]? = some v := by
      unfold start at h2
      rw [List.getElem?_append_left (by simpa using hi), List.getElem?_map] at h2
      cases e : vs[i]? with
      | none => rw [e] at h2; cases h2
      | some a => rw [e] at h2; cases h2; rfl
    obtain ⟨u, hu, rv⟩ := r.get ha
    have hp : ps[i]? = some y := by
      rw [← S.pre, List.getElem?_take_of_lt (by omega)]; exact h1
    have ndP : ps.Nodup := by rw [← S.pre]; exact S.nd.sublist (List.take_sublist _ _)
    refine ⟨u, rv, ?_⟩
    rcases S.par y (List.mem_of_getElem? hp) with k | k
    · exact .inl ⟨k, bindL_get ndP hp hu k⟩
    · obtain ⟨c, e⟩ := cell_has (n := s.heap.objs.size + 1) k
      refine .inr ⟨.inl k, c, e, ?_⟩
      have q := x.cell y c e
      rw [bindC_get ndP hp hu (by show scope.names.lookup y ≠ _; rw [k]; decide)] at q
      exact q
  · exact e0.hok.fresh (Nat.le_of_lt (x.above y c (PySem.mem_of_lookup h)))
  · unfold start
    show _ = N.length
    rw [List.length_append, List.length_map, List.length_replicate]
    omega

theorem fn_of {CX : CXT} {P : Program} {w : World} {K : PySem.W.Frag} {mg : Str → Option Value} {base : Heap} {k : Nat} {f : Addr} {name qual : Str} {params : Arguments} {body : List Stmt} {scope : Scope} {dV kV doc pm cdv ct oc : Value} {an od : Option Addr}
    {osl : Array (Option Value)} {N ps : List Str} {sp : Sp} (lk : K.lookup f = some ⟨oc, od, .func (PySem.W.fnOf name qual params body scope dV kV doc pm an cdv ct), osl⟩) (hcd : PySem.W.codeIn K cdv qual = true) (S : FnScope N ps scope)
    (len : ∀ vs H Q E, sp vs H Q E → vs.length = ps.length)
    (hbody : ∀ (A : Around) (outer : List Env) (s : Shared) (H : Hp) (vs : List V) (Q : VK) (E : XK), Room k (A.deeper (envOfC qual scope s.heap.objs.size f cdv)) → sp vs H Q E →
      ∃ t, PSs (cxOf CX P w K mg base N qual scope f cdv A outer s H E) body t ∧ t { nx := fun _ H' => Q .non H', rt := Q } (start N vs) H) :
    FnOk P w K mg base CX (k + 1) f (PySem.W.fnOf name qual params body scope dV kV doc pm an cdv ct) ps sp := by
  refine ⟨len, fun A outer s H args us vs Q E hr e0 hb r hsp => ?_⟩
  have hl := len _ _ _ _ hsp
  have KX : K.In s.heap := e0.mod.kin.keeps fun b o e => (e0.bs b o e).1
  have lim : s.heap.NoLimit := e0.mod.nolimit.keeps fun b o e => (e0.bs b o e).1
  have hkind : ∀ y ∈ ps.zip us, scope.names.lookup y.1 = some .local ∨ (scope.names.lookup y.1 = some .cell ∧ ((cellsFrom (s.heap.objs.size + 1) scope.names []).lookup y.1).isSome = true) := fun ⟨n, v⟩ hy => by
    rcases S.par n (List.of_mem_zip hy).1 with q | q
    · exact .inl q
    · exact .inr ⟨q, PySem.W.cellsFrom_some _ _ _ (.inl q)⟩
  refine codeAny_call_function hr.depth (KX _ _ lk) rfl S.co S.gen rfl (PySem.W.codeRec_of KX hcd) (hb _ _ _ _ ?_)
  refine wpAny_newFunctionEnv_cells S.kind hkind fun env he s1 x => ?_
  subst he
  refine ⟨lim.keeps x.toInCall.keep, codeAny_func ?_⟩
  obtain ⟨t, ht, hq⟩ := hbody A outer s H vs Q E (hr.deeper _) hsp
  have I : Inv (cxOf CX P w K mg base N qual scope f cdv A outer s H E) [] (start N vs) H s1 := inv_start S hr.hd e0 hl r x
  refine wpAny_mono (ht [] s1 (start N vs) H _ I hq) (fun fl s' hs => ?_) fun e s' hs => hs
  have fin : ∀ {σ' : St} {H' : Hp} {v : V} {u : Value}, Inv (cxOf CX P w K mg base N qual scope f cdv A outer s H E) [] σ' H' s' → RelV v u → Q v H' → CE outer P w H s Q u s' :=
    fun {σ' H' v u} J rv q => ⟨v, H', J.os, J.bare, J.base, J.hok, rv, q⟩
  cases fl with
  | ret u =>
    obtain ⟨v, σ', H', J, rv, q⟩ := hs
    exact fin J rv q
  | next =>
    obtain ⟨σ', H', J, q⟩ := hs
    exact fin (v := V.non) (u := Value.none) J rfl q
  | brk =>
    obtain ⟨_, _, _, q⟩ := hs
    exact False.elim q
  | cont =>
    obtain ⟨_, _, _, q⟩ := hs
    exact False.elim q
end L2

namespace L2
open PySem PySem.Spec PyProof.Rows
section
variable {X : Cx} {x : Str} {p pos : Pos} {e : Expr} {es : List Expr} {t : TA} {id T : String} {r : List V → Hp → VK → Prop}

def tCB (r : List V → Hp → VK → Prop) (t : TA) : TE := fun σ H Q => t σ H fun vs H1 => r vs H1 Q
theorem pe_callB (hc : CallR X (.builtin id) r) (hg : Gl X x) (hm : X.mg x = none) (hv : bootBuiltins x = some (.builtin id)) (ha : PA X (e :: es) t) (hn : x ≠ "__name__" := by decide) (hdb : (x == ("__debug__" : Str)) = false := by decide)
    (he : starEach (e :: es) X.env = (false, eval e X.env) :: starEach es X.env := by rfl) (hpl : (backTo pos (starEach es X.env)).any (·.1) = false := by rfl) : PE X (.Call (.Name x p) (e :: es) [] pos) (tCB r t) := by
  intro pins s σ H Q I h
  refine wpAny_Call_Name_kw (ld_blt I hg hm hv ?_ hn hdb)
  exact PyProof.Rows.callWith_builtin1 (thn (ha pos pins s σ H _ I h) fun us s1 ⟨vs, H1, I1, r1, q1⟩ => hc pins s1 σ H1 vs us Q I1 r1 q1) he hpl
theorem pe_callTy (hc : CallR X (.type T) r) (hg : Gl X x) (hm : X.mg x = none) (hv : bootBuiltins x = some (.type T)) (ha : PA X (e :: es) t) (hn : x ≠ "__name__" := by decide) (hdb : (x == ("__debug__" : Str)) = false := by decide)
    (he : starEach (e :: es) X.env = (false, eval e X.env) :: starEach es X.env := by rfl) (hpl : (backTo pos (starEach es X.env)).any (·.1) = false := by rfl) : PE X (.Call (.Name x p) (e :: es) [] pos) (tCB r t) := by
  intro pins s σ H Q I h
  refine wpAny_Call_Name_kw (ld_blt I hg hm hv ?_ hn hdb)
  exact PyProof.Rows.callWith_type1 (thn (ha pos pins s σ H _ I h) fun us s1 ⟨vs, H1, I1, r1, q1⟩ => hc pins s1 σ H1 vs us Q I1 r1 q1) he hpl
end
end L2

namespace HT
open PySem PyProof.Rows

section
open PySem.SeqAt
open PySem.AutoSeq1 (wpAny_loadPart')
open PySem.MeetsSeq PySem.MeetsSeq2 PySem.MeetsSeq3

end

section
variable {prog : Program} {w : World} {A : Around} {E : Value → Shared → Prop} {s : Shared}

def sIx (n d : Nat) : Option Int → Nat
  | none => d
  | some v => if v < 0 then (v + (n : Int)).toNat else min v.toNat n
end
end HT

namespace L2
open PySem PySem.Spec PyProof.Rows

abbrev TO := St → Hp → (Option Int → Hp → Prop) → Prop
def PO (X : Cx) (e : Option Expr) (t : TO) : Prop :=
  ∀ (pins : List (Addr × Obj)) (s : Shared) (σ : St) (H : Hp) (Q : Option Int → Hp → Prop), Inv X pins σ H s → t σ H Q →
    wpAny (model X.prog X.w) X.A (evalPart e X.env) (fun u s' => ∃ o H', Inv X pins σ H' s' ∧ IsPart u o ∧ Q o H') X.xe s
def tNoPart : TO := fun _ H Q => Q none H
def tPart (t : TE) : TO := fun σ H Q => t σ H fun x H1 => ∃ i, x = .int i ∧ Q (some i) H1

theorem intsAre_of {ns : List Int} : ∀ {us : List Value}, Vals (ns.map V.int) us → IntsAre us ns := by
  induction ns with
  | nil => intro us r; rw [List.map_nil] at r; cases r; exact .nil
  | cons n ns ih =>
    intro us r
    rw [List.map_cons] at r
    cases r with
    | cons r1 r2 =>
      obtain ⟨t, e⟩ := r1
      subst e
      exact .cons n t (ih r2)

section
variable {X : Cx} {e : Expr} {te : TE} {lo hi : Option Expr} {tl th : TO} {pos p2 : Pos}

theorem po_none : PO X none tNoPart := by
  intro pins s σ H Q I h
  rw [evalPart_none]
  exact wpAny_pure ⟨none, H, I, .none, h⟩
theorem po_some (h : PE X e te) : PO X (some e) (tPart te) := by
  intro pins s σ H Q I hw
  rw [evalPart_some]
  refine thn (h pins s σ H _ I hw) fun u s1 ⟨x, H1, I1, r1, q1⟩ => ?_
  obtain ⟨i, rfl, q⟩ := q1
  obtain ⟨t, rfl⟩ := r1
  exact ⟨some i, H1, I1, .int i t, q⟩

def SlR (X : Cx) (r : V → Option Int → Option Int → Hp → VK → Prop) : Prop :=
  ∀ (pins : List (Addr × Obj)) (s : Shared) (σ : St) (H : Hp) (x : V) (v vl vu : Value) (lo hi : Option Int) (sl : Addr) (Q : VK), Inv X pins σ H s → RelV x v → s.heap.IsSliceOf sl vl vu .none → IsPart vl lo → IsPart vu hi → r x lo hi H Q →
    ∃ T id, typeLookup (.type T) "__getitem__" = pure (some (.builtin id)) ∧ s.TypeIs v T ∧ wpAny (model X.prog X.w) X.A (getItem v (.ref sl)) (EP X pins σ Q) X.xe s
def tSl (r : V → Option Int → Option Int → Hp → VK → Prop) (te : TE) (tl th : TO) : TE := fun σ H Q => te σ H fun x H1 => tl σ H1 fun l H2 => th σ H2 fun u H3 => r x l u H3 Q
theorem pe_slice {r : V → Option Int → Option Int → Hp → VK → Prop} (hr : SlR X r) (he : PE X e te) (hl : PO X lo tl) (hu : PO X hi th) : PE X (.Subscript e (.Slice lo hi none p2) pos) (tSl r te tl th) := by
  intro pins s σ H Q I h
  refine Subscript_ (thn (he pins s σ H _ I h) fun v s1 ⟨x, H1, I1, r1, q1⟩ => ?_)
  refine wpAny_Slice (thn (hl pins s1 σ H1 _ I1 q1) fun vl s2 ⟨l, H2, I2, pl, q2⟩ => thn (hu pins s2 σ H2 _ I2 q2) fun vu s3 ⟨u, H3, I3, pu, q3⟩ => ?_)
  rw [evalPart_none]
  refine wpAny_pure ?_
  have I4 : Inv X pins σ H3 { s3 with heap := s3.heap.push { cls := .type "slice", data := .fields #[vl, vu, .none] } } := I3.kept (t' := s3.toks) fun b ob q => Heap.get?_push_of_some _ q
  obtain ⟨T, id, hT, ht, hg⟩ := hr pins { s3 with heap := s3.heap.push { cls := .type "slice", data := .fields #[vl, vu, .none] } } σ H3 x v vl vu l u s3.heap.objs.size Q I4 r1 (Heap.IsSliceOf.new ..) pl pu q3
  show wpAny (model X.prog X.w) X.A (subscriptTail e (.Slice lo hi none p2) v (.ref s3.heap.objs.size)) (EP X pins σ Q) X.xe { s3 with heap := s3.heap.push { cls := .type "slice", data := .fields #[vl, vu, .none] } }
  exact tail_any (ops := [.ref s3.heap.objs.size, v]) ht hT hg (by with_unfolding_all rfl)

def cutV (xs : List V) (lo hi : Option Int) : List V := (xs.drop (HT.sIx xs.length 0 lo)).take (HT.sIx xs.length xs.length hi - HT.sIx xs.length 0 lo)
theorem cutV_length (xs : List V) (lo hi : Option Int) : (cutV xs lo hi).length ≤ xs.length := by
  unfold cutV
  rw [List.length_take, List.length_drop]
  omega
end
end L2

namespace L2
open PySem PySem.Spec PyProof.Rows

def ixN (n : Nat) (i : Int) : Option Nat := if 0 ≤ i then (if i < n then some i.toNat else none) else if -(n : Int) ≤ i then some (i + n).toNat else none
def atI {α : Type} (xs : List α) (i : Int) : Option α := (ixN xs.length i).bind fun j => xs[j]?
theorem ixN_seq {n : Nat} {i : Int} {j : Nat} (h : ixN n i = some j) : seqIndex? i n = some j ∧ j < n ∧ -(n : Int) ≤ i ∧ i < n := by
  unfold ixN at h
  by_cases h0 : 0 ≤ i
  · rw [if_pos h0] at h
    by_cases h1 : i < n
    · rw [if_pos h1] at h
      have e : i.toNat = j := Option.some.inj h
      exact ⟨by rw [seqIndex_of h0 h1, e], by omega, by omega, h1⟩
    · rw [if_neg h1] at h; cases h
  · rw [if_neg h0] at h
    by_cases h1 : -(n : Int) ≤ i
    · rw [if_pos h1] at h
      have e : (i + n).toNat = j := Option.some.inj h
      exact ⟨by rw [seqIndex_neg (by omega) h1, e], by omega, h1, by omega⟩
    · rw [if_neg h1] at h; cases h
theorem atI_get {α : Type} {xs : List α} {i : Int} {v : α} (h : atI xs i = some v) : ∃ j, seqIndex? i xs.length = some j ∧ xs[j]? = some v ∧ j < xs.length ∧ -(xs.length : Int) ≤ i ∧ i < xs.length := by
  unfold atI at h
  cases e : ixN xs.length i with
  | none => rw [e] at h; cases h
  | some j =>
    rw [e] at h
    obtain ⟨h1, h2, h3, h4⟩ := ixN_seq e
    exact ⟨j, h1, h, h2, h3, h4⟩
theorem atI_nat {α : Type} {xs : List α} {j : Nat} {v : α} (h : xs[j]? = some v) : atI xs (j : Int) = some v := by
  have hj : j < xs.length := (List.getElem?_eq_some_iff.mp h).1
  have e : ixN xs.length (j : Int) = some j := by
    unfold ixN
    rw [if_pos (by omega), if_pos (by omega)]; simp
  unfold atI; rw [e]; exact h
def PlainIx (b : Expr) : Prop := ∀ o i, subscripted b false o i = operate [o, i] (getItem o i)
def IxR (X : Cx) (r : R2) : Prop :=
  ∀ (value slice : Expr) (pins : List (Addr × Obj)) (s : Shared) (σ : St) (H : Hp) (x y : V) (v u : Value) (Q : VK), Inv X pins σ H s → RelV x v → RelV y u → r x y H Q →
    subscripted slice false v u = operate [v, u] (getItem v u) → wpAny (model X.prog X.w) X.A (subscriptTail value slice v u) (EP X pins σ Q) X.xe s
def MtR (X : Cx) (id : String) (r : V → List V → Hp → VK → Prop) : Prop :=
  ∀ (pins : List (Addr × Obj)) (s : Shared) (σ : St) (H : Hp) (x : V) (xs : List V) (v : Value) (us : List Value) (Q : VK), Inv X pins σ H s → RelV x v → Vals xs us → r x xs H Q →
    wpAny (model X.prog X.w) X.A (call (.builtin id) (v :: us)) (EP X pins σ Q) X.xe s
section
variable {X : Cx} {a b : Expr} {ta tb : TE} {pos : Pos}
theorem pe_ix {r : R2} (hr : IxR X r) (ha : PE X a ta) (hb : PE X b tb) (hs : PlainIx b) : PE X (.Subscript a b pos) (tOp r ta tb) := by
  intro pins s σ H Q I h
  exact Subscript_ (binT ha hb I h fun v u s2 x y H2 I2 rx ry q => hr a b pins s2 σ H2 x y v u Q I2 rx ry q (hs _ _))

def rIxL (K : PySem.W.Frag) : R2 := fun x y H Q => ∃ p xs i v, x = .ref p ∧ y = .int i ∧ SqL K H p xs ∧ atI xs i = some v ∧ Q v H
def rIxT (K : PySem.W.Frag) : R2 := fun x y H Q => ∃ p xs i v, x = .ref p ∧ y = .int i ∧ SqT K H p xs ∧ atI xs i = some v ∧ Q v H
def rIxS : R2 := fun x y H Q => ∃ z i c, x = .str z ∧ y = .int i ∧ z.length ≤ sizeLine ∧ atI z.cps.toList i = some c ∧ Q (.str ⟨#[c]⟩) H
theorem ix_list : IxR X (rIxL X.K) := by
  intro value slice pins s σ H x y v u Q I rx ry h hs
  obtain ⟨p, xs, i, z, rfl, rfl, hq, he, q⟩ := h
  cases rx
  obtain ⟨t, rfl⟩ := ry
  obtain ⟨its, r, pl, hz⟩ := I.list hq
  obtain ⟨j, h1, h2, h3, h4, h5⟩ := atI_get he
  obtain ⟨w, ew, rw'⟩ := r.get h2
  have hl := r.length
  have hn := line63
  have fin : EP X pins σ Q w s := ⟨z, H, I, rw', q⟩
  by_cases h0 : 0 ≤ i
  · have hj : i.toNat = j := by
      rw [seqIndex_of h0 h5] at h1
      exact Option.some.inj h1
    exact item_listR pl.isList h0 (by omega) (by rw [hj]; simpa using ew) fin hs
  · have hj : (i + (its.toArray.size : Int)).toNat = j := by
      rw [seqIndex_neg (by omega) h4] at h1
      rw [List.size_toArray, ← hl]
      exact Option.some.inj h1
    exact subscriptTail_builtinR (x := w) pl.isList.typeIs slot_list_getitem.lookup
      (wpAny_getItem_list_neg (Q := fun r s' => r = w ∧ EP X pins σ Q r s') pl.isList (by omega) (by rw [List.size_toArray] <;> omega) (by omega) (by rw [hj]; simpa using ew) ⟨rfl, fin⟩) hs
theorem ix_tup : IxR X (rIxT X.K) := by
  intro value slice pins s σ H x y v u Q I rx ry h hs
  obtain ⟨p, xs, i, z, rfl, rfl, hq, he, q⟩ := h
  cases rx
  obtain ⟨t, rfl⟩ := ry
  obtain ⟨its, r, pl, hz⟩ := I.tuple hq
  obtain ⟨j, h1, h2, h3, h4, h5⟩ := atI_get he
  obtain ⟨w, ew, rw'⟩ := r.get h2
  have hl := r.length
  have hn := line63
  have fin : EP X pins σ Q w s := ⟨z, H, I, rw', q⟩
  exact subscriptTail_builtinR (x := w) pl.typeIs slot_tuple_getitem.lookup
    (getItem_tuple (j := j) (Q := fun r s' => r = w ∧ EP X pins σ Q r s') pl (by omega) (by omega) (by rw [List.size_toArray, ← hl]; exact h1) (by simpa using ew) ⟨rfl, fin⟩) hs
theorem ix_str : IxR X rIxS := by
  intro value slice pins s σ H x y v u Q I rx ry h hs
  obtain ⟨z, i, c, rfl, rfl, hz, he, q⟩ := h
  obtain ⟨t, rfl⟩ := rx
  obtain ⟨t', rfl⟩ := ry
  obtain ⟨j, h1, h2, h3, h4, h5⟩ := atI_get he
  have hl : z.cps.toList.length = z.length := by simp [Str.length]
  rw [hl] at h1 h4 h5
  have hn := line63
  exact tail_any (typeIs_str s z t) slot_str_getitem.lookup (getItem_str (c := c) (by
    have e1 : decide (i < -(2 ^ 63 : Int)) = false := decide_eq_false (by omega)
    have e2 : decide (i ≥ 2 ^ 63) = false := decide_eq_false (by omega)
    rw [e1, e2, Bool.or_false]) (by rw [h1]; simpa using h2) ⟨.str ⟨#[c]⟩, H, I.tok _, ⟨_, rfl⟩, q⟩) hs
theorem Inv.lst {pins : List (Addr × Obj)} {σ : St} {H : Hp} {s : Shared} {p : Addr} {xs : List V} (I : Inv X pins σ H s) (h : H p = some (.lst xs)) :
    ∃ (its : List Value) (n : Nat), Vals xs its ∧ s.heap.get? p = some { cls := .type "list", data := .seq its.toArray n } ∧ xs.length ≤ sizeLine := by
  obtain ⟨z, its, n, r, e⟩ := I.hok p _ h
  exact ⟨its, n, r, e, z⟩
theorem slice_bounds (lo hi : Option Int) (n : Nat) : (sliceBounds lo hi none n).1 = ((HT.sIx n 0 lo : Nat) : Int) ∧ (sliceBounds lo hi none n).2.1 = ((HT.sIx n n hi : Nat) : Int) ∧ (sliceBounds lo hi none n).2.2 = 1 := by
  refine ⟨?_, ?_, rfl⟩
  · cases lo with
    | none => simp [sliceBounds, HT.sIx]
    | some i =>
      simp only [sliceBounds, HT.sIx, Option.getD_none, show (1 : Int) > 0 by decide, if_true]
      by_cases h : i < 0
      · simp only [h, if_true] <;> omega
      · simp only [h, if_false] <;> omega
  · cases hi with
    | none => simp [sliceBounds, HT.sIx]
    | some i =>
      simp only [sliceBounds, HT.sIx, Option.getD_none, show (1 : Int) > 0 by decide, if_true]
      by_cases h : i < 0
      · simp only [h, if_true] <;> omega
      · simp only [h, if_false] <;> omega
theorem slicePick_cut (its : List Value) (lo hi : Option Int) : slicePick its.toArray lo hi none = ((its.drop (HT.sIx its.length 0 lo)).take (HT.sIx its.length its.length hi - HT.sIx its.length 0 lo)).toArray := by
  obtain ⟨h1, h2, h3⟩ := slice_bounds lo hi its.toArray.size
  unfold slicePick
  rw [h1, h2, h3]
  simp only [sliceRange_one, pick_run, List.size_toArray] <;> rfl
def rSlL (K : PySem.W.Frag) : V → Option Int → Option Int → Hp → VK → Prop := fun x lo hi H Q => ∃ a xs, x = .ref a ∧ SqL K H a xs ∧ ∀ p, H p = none → Q (.ref p) (upd H p (.lst (cutV xs lo hi)))
theorem sl_list : SlR X (rSlL X.K) := by
  intro pins s σ H x v vl vu lo hi sl Q I rx hs pl pu h
  obtain ⟨a, xs, rfl, hx, q⟩ := h
  cases rx
  obtain ⟨its, r, ht, hz⟩ := I.list hx
  have hlen := r.length
  refine ⟨"list", _, slot_list_getitem.lookup, ht.isList.typeIs, ?_⟩
  refine wpAny_getItem_list_slice ht.isList hs pl pu .none (by simp) ?_ (by rw [List.size_toArray] <;> omega)
  rw [slicePick_cut, ← hlen]
  refine ⟨.ref s.heap.objs.size, _, I.laid (t' := s.toks) (o := .lst (cutV xs lo hi)) (fun b ob q => Heap.get?_push_of_some _ q) (Nat.le_refl _) ?_, rfl, q _ (I.hok.fresh (Nat.le_refl _))⟩
  exact ⟨Nat.le_trans (cutV_length xs lo hi) hz, _, 0, (r.drop (HT.sIx xs.length 0 lo)).take (HT.sIx xs.length xs.length hi - HT.sIx xs.length 0 lo), Heap.get?_push_size _ rfl⟩

theorem call_len_seq : CallR X (.builtin "len") (fun xs H Q => ∃ p ys, xs = [.ref p] ∧ (SqL X.K H p ys ∨ SqT X.K H p ys) ∧ Q (.int ys.length) H) := by
  intro pins s σ H xs us Q I r h
  obtain ⟨p, ys, rfl, hq, q⟩ := h
  obtain ⟨u, rfl, rx⟩ := vals1 r
  cases rx
  have hn := line63
  rcases hq with hq | hq
  · obtain ⟨its, r', pl, hz⟩ := I.list hq
    have hlen := r'.length
    exact Calls.call_len_list pl.isList (by simp only [List.size_toArray] <;> omega) ⟨.int ys.length, H, I.tok _, ⟨s.toks + 1, by rw [List.size_toArray, hlen]⟩, q⟩
  · obtain ⟨its, r', pl, hz⟩ := I.tuple hq
    have hlen := r'.length
    exact len_tuple pl (by simp only [List.size_toArray] <;> omega) ⟨.int ys.length, H, I.tok _, ⟨s.toks + 1, by rw [List.size_toArray, hlen]⟩, q⟩
theorem call_len_str : CallR X (.builtin "len") (fun xs H Q => ∃ z, xs = [.str z] ∧ z.length ≤ sizeLine ∧ Q (.int z.length) H) := by
  intro pins s σ H xs us Q I r h
  obtain ⟨z, rfl, hz, q⟩ := h
  obtain ⟨u, rfl, t, rfl⟩ := vals1 r
  have hn := line63
  exact len_str (by omega) ⟨.int z.length, H, I.tok _, ⟨_, rfl⟩, q⟩
def tyV (K : PySem.W.Frag) (T : String) (x : V) (H : Hp) : Prop := match x with
  | .str _ => T = "str"
  | .int _ => T = "int"
  | .ref p => (T = "list" ∧ ∃ xs, SqL K H p xs) ∨ (T = "tuple" ∧ ∃ o, K.lookup p = some o ∧ o.cls = .type "tuple" ∧ o.dict = none) ∨
      (T = "dict" ∧ ((∃ kvs, H p = some (.dK kvs)) ∨ ∃ kvs, H p = some (.dT kvs))) ∨ (T = "set" ∧ ∃ S n, H p = some (.set S n))
  | _ => False
theorem tyV_is {pins : List (Addr × Obj)} {σ : St} {H : Hp} {s : Shared} {T : String} {x : V} {v : Value} (I : Inv X pins σ H s) (r : RelV x v) (ty : tyV X.K T x H) :
    s.TypeIs v T ∧ ∀ a, v = .ref a → ∃ ob, s.heap.get? a = some ob ∧ ob.dict = none := by
  cases x with
  | str z =>
    obtain ⟨t, rfl⟩ := r
    cases (show T = "str" from ty)
    exact ⟨typeIs_str s z t, fun _ e => nomatch e⟩
  | int i =>
    obtain ⟨t, rfl⟩ := r
    cases (show T = "int" from ty)
    exact ⟨typeIs_int s i t, fun _ e => nomatch e⟩
  | ref p =>
    cases r
    rcases ty with ⟨rfl, xs, hq⟩ | ⟨rfl, o, hk, hc, hd⟩ | ⟨rfl, hk⟩ | ⟨rfl, S, n, hk⟩
    · obtain ⟨its, _, pl, _⟩ := I.list hq
      refine ⟨pl.isList.typeIs, fun a e => ?_⟩
      cases e
      obtain ⟨o, n, e, c, hd, _⟩ := pl
      exact ⟨o, e, hd⟩
    · refine ⟨⟨o, I.kIn p o hk, hc⟩, fun a e => ?_⟩
      cases e
      exact ⟨o, I.kIn _ o hk, hd⟩
    · have z : ∃ o, s.heap.get? p = some o ∧ o.ExactDict := by
        rcases hk with ⟨kvs, hk⟩ | ⟨kvs, hk⟩
        · obtain ⟨_, _, _, _, o, _, _, e, ex, _⟩ := I.hok p _ hk
          exact ⟨o, e, ex⟩
        · obtain ⟨_, _, _, _, o, _, _, e, ex, _⟩ := I.hok p _ hk
          exact ⟨o, e, ex⟩
      obtain ⟨o, e, ex⟩ := z
      refine ⟨⟨o, e, ex.1⟩, fun a e2 => ?_⟩
      cases e2
      exact ⟨o, e, ex.2.1⟩
    · obtain ⟨o, _, _, _, e, ex, _⟩ := I.hok p _ hk
      refine ⟨⟨o, e, ex.1⟩, fun a e2 => ?_⟩
      cases e2
      exact ⟨o, e, ex.2.1⟩
  | _ => exact False.elim ty
def tBM0 (K : PySem.W.Frag) (T : String) (r : V → List V → Hp → VK → Prop) (to : TE) : TE := fun σ H Q => to σ H fun x H1 => tyV K T x H1 ∧ r x [] H1 Q
def tBM (K : PySem.W.Frag) (T : String) (r : V → List V → Hp → VK → Prop) (to : TE) (t : TA) : TE := fun σ H Q => to σ H fun x H1 => tyV K T x H1 ∧ t σ H1 fun xs H2 => r x xs H2 Q
variable {o e : Expr} {es : List Expr} {to : TE} {t : TA} {name : Str} {apos cpos : Pos} {T id : String} {r : V → List V → Hp → VK → Prop}
theorem pe_bm0 (pa : PlainAttrs T) (slot : Slot T name id) (hty : typeOf (.builtin id) = pure (.type "method_descriptor")) (hm : MtR X id r) (ho : PE X o to)
    (hbase : attributeBase o name X.env (eval o X.env) = eval o X.env := by rfl) (hline : (apos.endLine == cpos.line) = true := by rfl) : PE X (.Call (.Attribute o name apos) [] [] cpos) (tBM0 X.K T r to) := by
  intro pins s σ H Q I h
  refine wpAny_Call_method0_late hbase hline (thn (ho pins s σ H _ I h) fun v s1 ⟨x, H1, I1, r1, ty, q1⟩ => ?_)
  obtain ⟨h1, h2⟩ := tyV_is I1 r1 ty
  exact ⟨T, id, pa, slot, hty, h1, h2, Calls.callWith_builtin rfl (PySem.evalArgs_none (hm pins s1 σ H1 x [] v [] Q I1 r1 .nil q1))⟩
theorem pe_bm (pa : PlainAttrs T) (slot : Slot T name id) (hty : typeOf (.builtin id) = pure (.type "method_descriptor")) (hm : MtR X id r) (ho : PE X o to) (ha : PA X (e :: es) t)
    (hbase : attributeBase o name X.env (eval o X.env) = eval o X.env := by rfl)
    (hfew : ((backTo cpos (starEach (e :: es) X.env)).all (fun x => !x.1) && (backToKw cpos (keywordEach [] X.env)).all (fun x => x.1.isSome)
      && decide ((e :: es).length + ([] : List Keyword).length + (if ([] : List Keyword).isEmpty then 0 else 1) < 30)) = true := by rfl)
    (hline : (apos.endLine == cpos.line) = true := by rfl) (hs : starEach (e :: es) X.env = (false, eval e X.env) :: starEach es X.env := by rfl) (hplain : (backTo cpos (starEach es X.env)).any (·.1) = false := by rfl) :
    PE X (.Call (.Attribute o name apos) (e :: es) [] cpos) (tBM X.K T r to t) := by
  intro pins s σ H Q I h
  refine wpAny_Call_method_late hbase hfew hline rfl (thn (ho pins s σ H _ I h) fun v s1 ⟨x, H1, I1, r1, ty, q1⟩ => ?_)
  obtain ⟨h1, h2⟩ := tyV_is I1 r1 ty
  refine ⟨T, id, pa, slot, hty, h1, h2, ?_⟩
  have hA := ha cpos pins s1 σ H1 _ I1 q1
  rw [hs] at hA ⊢
  refine Calls.callWith_builtin (by show (false || (backTo cpos (starEach es X.env)).any (·.1)) = false; rw [hplain] <;> rfl) (Calls.evalArgs_plain ?_)
  exact thn hA fun us s2 ⟨vs, H2, I2, r2, q2⟩ => hm pins s2 σ H2 x vs v us Q I2 r1 r2 q2
/- xs.append(e), list.index on a module's tuple .. are MtR facts of 06m -/
end
end L2

namespace L2
open PySem PySem.Spec PyProof.Rows

def MtM (X : Cx) (id : String) (r : V → List V → Hp → VK → Prop) : Prop :=
  ∀ (pins : List (Addr × Obj)) (s : Shared) (σ : St) (H : Hp) (x : V) (xs : List V) (v : Value) (us : List Value) (Q : VK), Inv X pins σ H s → RelV x v → Vals xs us → r x xs H Q →
    wpAny (model X.prog X.w) X.A (call (.builtin id) (v :: us)) (EP X pins σ Q) X.xe s

theorem Vals.one : ∀ {x : V} {us : List Value}, Vals [x] us → ∃ u, us = [u] ∧ RelV x u
  | _, _, .cons r .nil => ⟨_, rfl, r⟩
theorem Vals.two : ∀ {x y : V} {us : List Value}, Vals [x, y] us → ∃ u v, us = [u, v] ∧ RelV x u ∧ RelV y v
  | _, _, _, .cons r (.cons q .nil) => ⟨_, _, rfl, r, q⟩
theorem Vals.zero : ∀ {us : List Value}, Vals [] us → us = []
  | _, .nil => rfl
theorem Vals.reverse {xs : List V} {us : List Value} (h : Vals xs us) : Vals xs.reverse us.reverse := by
  induction h with
  | nil => exact .nil
  | cons r t ih => rw [List.reverse_cons, List.reverse_cons]; exact Vals.append ih (.cons r .nil)
section
variable {X : Cx} {pins : List (Addr × Obj)} {σ : St} {H : Hp} {s : Shared} {l b : Addr} {xs ys zs : List V}

theorem Inv.lset {its its' : List Value} {n : Nat} {f : Array Value → Array Value} {t' : Nat} (I : Inv X pins σ H s) (hH : H l = some (.lst xs))
    (e : s.heap.get? l = some { cls := .type "list", data := .seq its.toArray n }) (hf : f its.toArray = its'.toArray) (hv : Vals ys its') (hz : ys.length ≤ sizeLine) :
    Inv X pins σ (upd H l (.lst ys)) { s with heap := s.heap.update l (Obj.mapSeq f), toks := t' } := by
  have q := PySem.IsL.update e f
  rw [hf] at q
  refine I.write (x := l) (e := l) (by rw [hH]; exact trivial) (.inl rfl) (fun b' u hb hu => (Heap.get?_update_other s.heap (Obj.mapSeq f) (Ne.symm hb)).trans hu) ⟨_, q⟩ ?_
  exact ⟨hz, its', _, hv, q⟩
theorem Inv.lnew {its : List Value} {t' : Nat} (I : Inv X pins σ H s) (hv : Vals ys its) (hz : ys.length ≤ sizeLine) :
    Inv X pins σ (upd H s.heap.objs.size (.lst ys)) { s with heap := s.heap.push { cls := .type "list", data := .seq its.toArray }, toks := t' } :=
  I.laid (fun _ _ q => Heap.get?_push_of_some _ q) (Nat.le_refl _) ⟨hz, its, 0, hv, Heap.get?_push_size _ rfl⟩
theorem Inv.fresh (I : Inv X pins σ H s) : H s.heap.objs.size = none := I.hok.fresh (Nat.le_refl _)
theorem Inv.lstM (I : Inv X pins σ H s) (hH : H l = some (.lst xs)) : xs.length ≤ sizeLine ∧ ∃ (its : List Value) (n : Nat), Vals xs its ∧ xs.length = its.length ∧ s.heap.get? l = some { cls := .type "list", data := .seq its.toArray n } := by
  obtain ⟨z, its, n, r, e⟩ := I.hok l _ hH
  exact ⟨z, its, n, r, r.length, e⟩

end

section
variable {X : Cx}

def rAppend : V → List V → Hp → VK → Prop := fun x vs H Q => ∃ l xs y, x = .ref l ∧ vs = [y] ∧ H l = some (.lst xs) ∧ xs.length < sizeLine ∧ Q .non (upd H l (.lst (xs ++ [y])))
theorem mt_append : MtM X "list.append" rAppend := by
  intro pins s σ H x vs v us Q I rx rv h
  obtain ⟨l, xs, y, rfl, rfl, hH, hz, q⟩ := h
  cases rx
  obtain ⟨u, rfl, ru⟩ := rv.one
  obtain ⟨z, its, n, r, hl, e⟩ := I.lstM hH
  refine call_meets F.slot_list_append ⟨_, e, rfl⟩ F.entry_list_append (F.args_list_append_2 _ _) (PySem.list_append l its.toArray n u (by rw [List.size_toArray]; omega)) ⟨e, ?_⟩
  refine ⟨.non, _, I.lset (its' := its ++ [u]) hH e (by simp) (r.append (.cons ru .nil)) ?_, rfl, q⟩
  rw [List.length_append, List.length_singleton]
  omega

def rClear : V → List V → Hp → VK → Prop := fun x vs H Q => ∃ l xs, x = .ref l ∧ vs = [] ∧ H l = some (.lst xs) ∧ Q .non (upd H l (.lst []))
theorem mt_clear : MtM X "list.clear" rClear := by
  intro pins s σ H x vs v us Q I rx rv h
  obtain ⟨l, xs, rfl, rfl, hH, q⟩ := h
  cases rx
  have hus := rv.zero
  subst hus
  obtain ⟨z, its, n, r, hl, e⟩ := I.lstM hH
  refine call_meets F.slot_list_clear ⟨_, e, rfl⟩ F.entry_list_clear (F.args_list_clear_1 _) (AutoSeq1.list_clear_list_0 l its.toArray n (by rw [List.size_toArray]; omega)) ⟨e, ?_⟩
  exact ⟨.non, _, I.lset (its' := []) (ys := []) hH e rfl .nil (Nat.zero_le _), rfl, q⟩

def rCat : R2 := fun x y H Q => ∃ l b xs zs, x = .ref l ∧ y = .ref b ∧ H l = some (.lst xs) ∧ H b = some (.lst zs) ∧ xs.length + zs.length ≤ sizeLine ∧ ∀ p, H p = none → Q (.ref p) (upd H p (.lst (xs ++ zs)))
theorem op_cat : OpR X (binaryOp .Add) rCat := by
  intro pins s σ H x y v u Q I rx ry h
  obtain ⟨l, b, xs, zs, rfl, rfl, hH, hB, hz, q⟩ := h
  cases rx
  cases ry
  obtain ⟨z, its, n, r, hl, e⟩ := I.lstM hH
  obtain ⟨z2, its2, n2, r2, hl2, e2⟩ := I.lstM hB
  refine PySem.P.add_list e e2 ?_ (by rw [List.size_toArray, List.size_toArray]; omega)
  have ea : its.toArray ++ its2.toArray = (its ++ its2).toArray := by simp
  rw [ea]
  exact ⟨.ref _, _, I.lnew (t' := s.toks) (r.append r2) (by rw [List.length_append]; omega), rfl, q _ I.fresh⟩
end

section
variable {prog : Program} {w : World} {A : Around} {E : Value → Shared → Prop} {s : Shared}
end

section
variable {X : Cx}
end
end L2

namespace Att
open PySem PySem.W PySem.Calls PyProof.Rows

theorem ints_of_wellAll {P : Params} {h : Heap} : ∀ (ns : List Int) (vs : List Value), WellAll P h vs (ns.map WData.int) → IntsAre vs ns := by
  intro ns
  induction ns with
  | nil =>
    intro vs w
    rw [List.map_nil] at w
    cases w
    exact .nil
  | cons n ns ih =>
    intro vs w
    rw [List.map_cons] at w
    cases w with
    | cons a b =>
      cases a
      exact .cons _ _ (ih _ b)

theorem script_of {l : OpenLaw} {n : Nat} (hn : l.most = some n) {P : Params} {h : Heap} {args : List WData} {vals : List Value}
    (hpre : l.row.toRowW.claim.pre args = true) (hwl : WellAll P h vals args) :
    ∃ a vs ns, vals = [Value.ref a] ∧ args = [WData.list (ns.map WData.int)] ∧ h.get? a = some { cls := .type "list", data := .seq vs.toArray } ∧ IntsAre vs ns ∧ ns.length ≤ n := by
  have hsh : WShape.hasAll [] args [.list .int] = true := (pre_splitW hpre).1
  have hc : l.pre.holds [] { args := args } = true := (pre_splitW hpre).2
  obtain ⟨d, r, rfl, h1, h2⟩ := hasAllW_cons hsh
  obtain rfl := hasAllW_nil h2
  obtain ⟨xs, rfl, h3⟩ := hasW_list h1
  obtain ⟨ns, rfl⟩ := items_int h3
  have hlen : ns.length ≤ n := by
    unfold OpenLaw.pre at hc
    have h4 : (WTm.not (.lt (.lit (.int (n : Int))) (.len (.arg 0)))).holds [] { args := [.list (ns.map .int)] } = true := by
      have h4 := (holds_andW hc).1
      rw [hn] at h4
      exact h4
    have h5 := condW_of h4 (w_not (w_lt w_lit (w_len_list (w_arg rfl))))
    rw [List.length_map] at h5
    refine Nat.le_of_not_lt fun q => ?_
    have q' : (n : Int) < ((ns.length : Nat) : Int) := by omega
    first
      | (rw [decide_eq_true q'] at h5; exact absurd h5 (by decide))
      | (simp at h5; omega)
  cases hwl with
  | cons w1 w2 =>
    cases w2
    cases w1 with
    | list ho hall => exact ⟨_, _, ns, rfl, rfl, ho, ints_of_wellAll ns _ hall, hlen⟩

theorem post_true (l : OpenLaw) (args : List WData) : l.row.toRowW.claim.post args (.bool true) args = true :=
  postW_of (r := l.row.toRowW) (X := (true == true))
    (show WShape.has [] (.bool true) .bool = true by first | rfl | decide | simp [WShape.has, WShape.arms, WShape.armsAll])
    (show (WTm.eq .res (.lit (.bool true))).value [] { args := args, res := some (.bool true), after := args } = some (.bool (true == true)) from w_eq_bool (w_res rfl) w_lit) rfl

section
variable {prog : Program} {w : World} {A : Around} {E : Value → Shared → Prop} {s : Shared} {K : Frag}

end
end Att

namespace L2
open PySem PySem.Spec PyProof.Rows

theorem vals_ints : ∀ {vs : List Value} {ns : List Int}, IntsAre vs ns → Vals (ns.map V.int) vs
  | _, _, .nil => .nil
  | _, _, .cons n t h => .cons ⟨t, rfl⟩ (vals_ints h)

def Only (H : Hp) : Prop := ∀ b, H b = none ∨ ∃ o xs, H b = some (.frz o (.lst xs))

theorem law_call {P : Program} {w : World} {K : PySem.W.Frag} {mg mb : Str → Option Value} {CX : CXT} {k : Nat} {fa a : Addr} {fd : FuncData} {x : Str} {sp : Sp} {s₁ : Shared} {vs : List Value} {ns : List Int}
    (KX : K.In s₁.heap) (hns : s₁.heap.Ns mainGlobals mg) (hb : s₁.heap.Ns builtinsNs mb) (hbb : ∀ x : Str, x ≠ "__name__" → mb x = bootBuiltins x) (hlim : s₁.heap.NoLimit) (hg : s₁.gens = #[])
    (ha : s₁.heap.get? a = some { cls := .type "list", data := .seq vs.toArray }) (hi : IntsAre vs ns) (hl : ns.length ≤ sizeLine) (hr : Room k callerA)
    (F : ∀ base : Heap, K.In base → base.Ns mainGlobals mg → FnOk P w K mg base CX k fa fd [x] sp) (hbind : ∀ (s : Shared) (u : Value), BindsTo s fd ⟨[u], []⟩ [(x, u)])
    (hsp : ∀ H : Hp, Only H → SqL K H a (ns.map V.int) → sp [.ref a] H (fun v _ => v = .bl true) fun _ _ _ => False)
    (hCX : ∀ H e s', CX [] H s₁ (fun _ _ _ => False) e s' → False) :
    codeAny (model P w) callerA (.call (.ref fa) ⟨[.ref a], []⟩) (fun r s' => r = .ok (.ret (.bool true)) ∧ OldK s₁.heap s'.heap ∧ s'.os = s₁.os ∧ AllBare s'.gens) s₁ := by
  have rv := vals_ints hi
  have lenV := hi.length
  -- from an abstract heap in which nothing but the script may be tracked
  have core : ∀ H : Hp, Only H → SqL K H a (ns.map V.int) → HOk P w H s₁.heap → (∀ b, H b ≠ none → b = a) → (H a ≠ none → K.lookup a = none) →
      codeAny (model P w) callerA (.call (.ref fa) ⟨[.ref a], []⟩) (fun r s' => r = .ok (.ret (.bool true)) ∧ OldK s₁.heap s'.heap ∧ s'.os = s₁.os ∧ AllBare s'.gens) s₁ := by
    intro H hO hS hok hA hK
    have base_of : ∀ {b : Addr} {o : Obj}, s₁.heap.get? b = some o → H b = none → (hidT s₁.heap H).get? b = some o := fun e n => hidT_get e n
    have noA : ∀ {b : Addr} {o : Obj} {es : Array DictEntry} {ep : Nat}, s₁.heap.get? b = some o → o.data = .dict es ep → H b = none := fun {b o es ep} e d => by
      cases q : H b with
      | none => rfl
      | some u =>
        have e' : b = a := hA b (by rw [q]; simp)
        subst e'
        rw [ha] at e; cases e
        have d' : Data.seq vs.toArray _ = Data.dict es ep := d
        cases d'
    have nsK : ∀ {b : Addr} {m : Str → Option Value}, s₁.heap.Ns b m → (hidT s₁.heap H).Ns b m := fun {b m} ⟨o, es, ep, e, d, r⟩ => ⟨o, es, ep, base_of e (noA e d), d, r⟩
    have hKb : K.In (hidT s₁.heap H) := fun b o e => base_of (KX b o e) (by
      cases q : H b with
      | none => rfl
      | some u =>
        have e' : b = a := hA b (by rw [q]; simp)
        subst e'
        rw [hK (by rw [q]; simp)] at e; cases e)
    have hM : Mod K mg (hidT s₁.heap H) := ⟨hKb, nsK hns, ⟨mb, nsK hb, hbb⟩, let ⟨mc, h1, h2⟩ := hlim; ⟨mc, nsK h1, h2⟩⟩
    have e0 : Env0 P w K mg (hidT s₁.heap H) callerA [] s₁ H := ⟨rfl, hM, fun b o e => of_hidT e, Nat.le_of_eq (hidT_size _ _), trivial, fun b hb => absurd (show b ∈ ([] : List Addr) from hb) (by simp), hok, .of_eq hg⟩
    refine codeAny_mono ((F _ hKb (nsK hns)).run callerA [] s₁ H ⟨[.ref a], []⟩ [.ref a] [.ref a] _ _ hr e0 (hbind s₁ (.ref a)) (.cons rfl .nil) (hsp H hO hS)) fun r s' h => ?_
    cases r with
    | error e => exact (hCX H e s' h).elim
    | ok fl =>
      cases fl with
      | next => exact False.elim h
      | brk => exact False.elim h
      | cont => exact False.elim h
      | ret u =>
        obtain ⟨v, H', os, bare, un, hok', r', q⟩ := h
        have q' : v = .bl true := q
        subst q'
        obtain rfl : u = Value.bool true := r'
        refine ⟨rfl, OldK.of_keep fun b o e => ?_, os, bare⟩
        cases q : H b with
        | none => exact un.keep b o e q (by intro z; exact absurd (show b ∈ ([] : List Addr) from z) (by simp)) (by simp)
        | some u =>
          rcases hO b with z | ⟨ob, xs, z⟩
          · rw [q] at z; cases z
          · have z2 := un.frzs b ob _ z
            obtain ⟨e1, _⟩ := hok b _ z
            obtain ⟨e2, _⟩ := hok' b _ z2
            rw [e] at e1; cases e1
            exact e2
  cases hk : K.lookup a with
  | some o =>
    -- the script is one of the module's own objects
    have e := KX a o hk
    rw [ha] at e
    cases e
    refine core (fun _ => none) (fun _ => .inl rfl) (.inr ⟨_, vs.toArray, _, hk, rfl, rfl, rfl, by rw [List.size_toArray, lenV]; exact hl, by simpa using rv⟩) (fun b u z => by have z' : (none : Option HO) = some u := z; cases z') (fun b z => absurd rfl z) fun z => absurd rfl z
  | none =>
    refine core (fun b => if b = a then some (.frz { cls := .type "list", data := .seq vs.toArray } (.lst (ns.map V.int))) else none) (fun b => ?_) (.inl (.inr ⟨{ cls := .type "list", data := .seq vs.toArray }, if_pos rfl⟩)) (fun b u z => ?_) (fun b z => ?_) fun _ => hk
    · by_cases hb : b = a
      · exact .inr ⟨_, _, if_pos hb⟩
      · exact .inl (if_neg hb)
    · by_cases hb : b = a
      · have z' := (if_pos hb).symm.trans z
        cases z'
        subst hb
        exact ⟨ha, by rw [List.length_map]; exact hl, vs, _, rv, ha⟩
      · have z' := (if_neg hb).symm.trans z
        cases z'
    · by_cases hb : b = a
      · exact hb
      · exact absurd (if_neg hb) z
end L2

namespace L2
open PySem PySem.Spec PyProof.Rows

end L2

/- THE LAST THEOREM (shape; LID, My.* are yours):
   My.Adr: a structure of the addresses that your layer names (classes, functions); My.Txt K t: a structure (Prop) of the equations over K;
   My.txt_mk : {K} {implicit addresses ..} (e1 : nsIn K mainGlobals "law" = some (some (.ref f))) (e2 : K.lookup f = some ⟨oc, od, .func (fnOf "law" "law" params body scope dV kV doc pm an cdv ct), sl⟩) (e3 : codeIn K cdv "law" = true) .. : ∃ t, My.Txt K t

set_option maxRecDepth 100000 in
set_option maxHeartbeats 0 in
theorem PySem.Challenge.cw_LID_holds : PySem.Challenge.rw_LID.Holds := by
  w_on; o_law; k_head; (case hw => w_witness2)
  k_fill
  refine L2.walk_of (l := PySem.Challenge.rw_LID) (n := 63) (k := 40) (x := "script") (CX := fun w => ..) (sp := fun _ => My.sp_law) rfl (by decide) rfl ⟨rfl, by decide, by decide⟩ (fun w h Y => PySem.W.kIn_of Y) ?F ?S ?C
  case F =>
    intro w mg fa h KX G hmg
    have T : ∃ t, My.Txt (L2.KOf KX) t := by
      dsimp only [L2.KOf]                          -- K must stand as «<heap const> w.params» for k_is
      refine' My.txt_mk ?e1 ?e2 ?e3 ..
      (case e1 => PySem.W.k_is)                    -- in the order: a name -> its address -> its object -> its parts
      (case e2 => PySem.W.k_is)
      ..
    obtain ⟨t, T⟩ := T
    have e0 := hmg.symm.trans (PySem.W.mg_of KX G T.law)
    cases e0                                       -- fa is the law's own address
    exact ⟨_, fun s u => .of_eq rfl, fun base kb nb => My.law_fn T kb nb⟩     -- if «.of_eq rfl» comes too early: refine' ⟨_, ?b, fun base kb nb => My.law_fn T kb nb⟩; exact fun s u => .of_eq rfl
  case S => exact fun w H a ns hl hO hS => ..
  case C => exact ..
(the tactic k_is has no namespace: write k_is) -/

namespace L2
open PySem PySem.Spec PyProof.Rows

def inClass (s : Stmt) (j : Nat) : Stmt := match s with
  | .ClassDef _ _ _ body _ _ _ _ _ _ _ => body.getD j (.Pass ⟨0, 0, 0, 0⟩)
  | _ => .Pass ⟨0, 0, 0, 0⟩
def defArgs (s : Stmt) : Arguments := match s with
  | .FunctionDef _ a _ _ _ _ _ _ _ _ => a
  | _ => { posonlyargs := [], args := [], vararg := none, kwonlyargs := [], kw_defaults := [], kwarg := none, defaults := [] }
def defBody (s : Stmt) : List Stmt := match s with
  | .FunctionDef _ _ b _ _ _ _ _ _ _ => b
  | _ => []
def defScope (s : Stmt) : Scope := match s with
  | .FunctionDef _ _ _ _ _ _ sc _ _ _ => sc
  | _ => { kind := .function, names := [], isGenerator := false, isCoroutine := false }

abbrev CX0 : CXT := fun _ _ _ _ _ _ => False
abbrev E0 : XK := fun _ _ _ => False
theorem pass0 {X : Cx} : Passes CX0 X E0 := fun _ _ _ _ _ _ _ h => h.elim

structure Fun (K : PySem.W.Frag) (x qual : Str) (st : Stmt) (f : Addr) (fd : FuncData) : Prop where
  ex : ∃ (oc : Value) (od : Option Addr) (kV doc pm : Value) (an : Option Addr) (cdv ct : Value) (osl : Array (Option Value)),
    fd = PySem.W.fnOf x qual (defArgs st) (defBody st) (defScope st) .none kV doc pm an cdv ct ∧ K.lookup f = some ⟨oc, od, .func fd, osl⟩ ∧ PySem.W.codeIn K cdv qual = true
  kp : PySem.W.keepIn K (.ref f) = true
section
variable {P : Program} {w : World} {K : PySem.W.Frag} {mg : Str → Option Value} {base : Heap}
theorem Fun.ok {x qual : Str} {st : Stmt} {f : Addr} {fd : FuncData} {N ps : List Str} {k : Nat} {sp : Sp} (F : Fun K x qual st f fd) (S : FnScope N ps (defScope st)) (len : ∀ vs H Q E, sp vs H Q E → vs.length = ps.length)
    (hbody : ∀ (cdv : Value) (A : Around) (outer : List Env) (s : Shared) (H : Hp) (vs : List V) (Q : VK) (E : XK), Room k (A.deeper (envOfC qual (defScope st) s.heap.objs.size f cdv)) → sp vs H Q E →
      ∃ t, PSs (cxOf CX0 P w K mg base N qual (defScope st) f cdv A outer s H E).nox (defBody st) t ∧ t { nx := fun _ H' => Q .non H', rt := Q } (start N vs) H) : FnOk P w K mg base CX0 (k + 1) f fd ps sp := by
  obtain ⟨oc, od, kV, doc, pm, an, cdv, ct, osl, rfl, lk, hcd⟩ := F.ex
  refine fn_of lk hcd S len fun A outer s H vs Q E hr hsp => ?_
  obtain ⟨t, h, q⟩ := hbody cdv A outer s H vs Q E hr hsp
  exact ⟨t, h.nox, q⟩
theorem Fun.binds {x qual : Str} {st : Stmt} {f : Addr} {fd : FuncData} {ps : List Str} (F : Fun K x qual st f fd)
    (h : ∀ (kV doc pm : Value) (an : Option Addr) (cdv ct : Value) (us : List Value), us.length = ps.length → bindArgs (PySem.W.fnOf x qual (defArgs st) (defBody st) (defScope st) .none kV doc pm an cdv ct) ⟨us, []⟩ = pure (ps.zip us)) : Binds K fd ps [] := by
  obtain ⟨oc, od, kV, doc, pm, an, cdv, ct, osl, rfl, lk, hcd⟩ := F.ex
  exact .all (h kV doc pm an cdv ct)
theorem fun_mk {x qual : Str} {st : Stmt} {f : Addr} {oc : Value} {od an : Option Addr} {osl : Array (Option Value)} {kV doc pm cdv ct : Value} (l : K.lookup f = some ⟨oc, od, .func (PySem.W.fnOf x qual (defArgs st) (defBody st) (defScope st) .none kV doc pm an cdv ct), osl⟩)
    (c : PySem.W.codeIn K cdv qual = true) (k : PySem.W.keepIn K (.ref f) = true) : Fun K x qual st f (PySem.W.fnOf x qual (defArgs st) (defBody st) (defScope st) .none kV doc pm an cdv ct) := ⟨⟨oc, od, kV, doc, pm, an, cdv, ct, osl, rfl, l, c⟩, k⟩
end
section
variable {X : Cx}
theorem pv (i : Nat) {x : Str} {pos : Pos} (hN : X.N[i]? = some x := by rfl) (hv : Vis X.env.scope x := by first | exact Or.inl rfl | exact Or.inr (Or.inl rfl) | exact Or.inr (Or.inr rfl)) (hd : (x == ("__debug__" : Str)) = false := by decide)
    (hcd : (x == ("__classdict__" : Str)) = false := by decide) : PE X (.Name x pos) (tVar i) := pe_var hN hv hd hcd
end

def Same (H H' : Hp) : Prop := ∀ b o, H b = some o → H' b = some o
theorem Same.refl (H : Hp) : Same H H := fun _ _ h => h
theorem Same.trans {H H1 H2 : Hp} (a : Same H H1) (b : Same H1 H2) : Same H H2 := fun c o h => b c o (a c o h)
theorem Same.free {H H' : Hp} (e : Same H H') {l : Addr} (h : H' l = Option.none) : H l = Option.none := by
  cases q : H l with
  | none => rfl
  | some o =>
    rw [e l o q] at h
    cases h
theorem Same.seq {K : PySem.W.Frag} {H H' : Hp} {a : Addr} {xs : List V} (e : Same H H') (h : SqL K H a xs) : SqL K H' a xs := by
  rcases h with (h | ⟨o, h⟩) | h
  · exact .inl (.inl (e _ _ h))
  · exact .inl (.inr ⟨o, e _ _ h⟩)
  · exact .inr h

end L2
namespace L2
open PySem PySem.Spec PyProof.Rows

theorem compLoop_any {prog : Program} {w : World} {A : Around} {R : Result → Shared → Prop} {s : Shared} {elt target iter : Expr} {ifs : List Expr} {scope : Scope} {pos : Pos} {it acc : Value} {env : Env} (J : Nat → Shared → Prop)
    (turn : ∀ n s, J n s → wpAny (model prog w) A (pyNext it) (fun r s₁ => match r with
      | none => R (.ok .next) s₁
      | some v => wpAny (model prog w) A (letOwnedTupleGo target it v) (fun _ s₁' => wpAny (model prog w) A (assign target env v) (fun _ s₂ =>
          wpAny (model prog w) A (forIn ifs true fun c r => if r = true then do let ok ← isTrue c env (eval c env); pure (ForInStep.yield ok) else pure (ForInStep.yield r)) (fun ok s₃ =>
            if ok = true then wpAny (model prog w) A (eval elt env) (fun x s₄ =>
              wpAny (model prog w) A (call (.builtin "list.append") [acc, x]) (fun _ s₅ => ∃ m, m < n ∧ J m s₅) (fun _ _ => False) s₄) (fun _ _ => False) s₃
            else ∃ m, m < n ∧ J m s₃) (fun _ _ => False) s₂) (fun _ _ => False) s₁') (fun _ _ => False) s₁) (fun _ _ => False) s)
    (n : Nat) (h : J n s) : codeAny (model prog w) A (.compLoop (.ListComp elt [⟨target, iter, ifs, 0⟩] scope pos) 0 it acc env) R s := by
  refine codeAny_loop rfl J (fun n s hI => ?_) n h
  show wpAny _ A ((compTurn (.ListComp elt [⟨target, iter, ifs, 0⟩] scope pos) 0 it acc env).onRaise (fun x => do noteFrame x env; theTreesLotGoes x)) _ _ s
  refine wpAny_noted ?_
  rw [compTurn_list]
  refine wpAny_bind (wpAny_standAt (wpAny_bind (wpAny_mono (turn n s hI) (fun r s₁ h₁ => ?_) fun _ _ h' => h'.elim)))
  cases r with
  | none => exact wpAny_pure h₁
  | some v =>
    refine wpAny_bind (wpAny_mono h₁ (fun _ s₁' h₁' => ?_) fun _ _ h' => h'.elim)
    refine wpAny_bind (wpAny_mono h₁' (fun _ s₂ h₂ => wpAny_bind (wpAny_mono h₂ (fun ok s₃ h₃ => ?_) fun _ _ h' => h'.elim)) fun _ _ h' => h'.elim)
    cases ok with
    | false => exact wpAny_pure ⟨rfl, h₃⟩
    | true => exact wpAny_bind (wpAny_bind (wpAny_mono h₃ (fun x s₄ h₄ => wpAny_bind (wpAny_mono h₄ (fun _ s₅ h₅ => wpAny_pure (wpAny_pure ⟨rfl, h₅⟩)) fun _ _ h' => h'.elim)) fun _ _ h' => h'.elim))

def cxComp (X : Cx) (N : List Str) (scope : Scope) (cl : List (Str × Addr)) (s : Shared) (H : Hp) (fp : List Addr) : Cx :=
  { X with N := N, s₀ := s, H₀ := H, env := compEnvC scope cl s.heap.objs.size X.env, outer := X.stack, ex := fp, fn := fun _ => false, pn := [], xe := fun _ _ => False }

structure CompSc (X : Cx) (own capt : List Str) (scope : Scope) (cl : List (Str × Addr)) (fr : List Nat) : Prop where
  clos : closureFor scope X.env = pure cl
  nocell : ∀ y ∈ scope.names, y.2 ≠ .cell
  kind : scope.kind = .function
  names : ∀ y ∈ scope.names, y.2 = .local → scope.names.lookup y.1 = some .local
  inn : ∀ y c, cl.lookup y = some c → X.env.cells.lookup y = some c
  has : ∀ y, ((relabel scope X.env).names.lookup y = some .cell ∨ (relabel scope X.env).names.lookup y = some .free) → ∃ c, cl.lookup y = some c
  cap : ∀ (k : Nat) (y : Str), capt[k]? = some y → ∃ j c, fr[k]? = some j ∧ X.N[j]? = some y ∧ X.env.scope.names.lookup y = some .cell ∧ cl.lookup y = some c ∧
    ((relabel scope X.env).names.lookup y = some .cell ∨ (relabel scope X.env).names.lookup y = some .free)
  len : capt.length = fr.length
theorem CompSc.none {X : Cx} {own : List Str} {scope : Scope} (h1 : ∀ y ∈ scope.names, y.2 ≠ .free) (h2 : ∀ y ∈ scope.names, y.2 ≠ .cell) (kind : scope.kind = .function) (names : ∀ y ∈ scope.names, y.2 = .local → scope.names.lookup y.1 = some .local) :
    CompSc X own [] scope [] [] where
  clos := closureFor_none h1
  nocell := h2
  kind := kind
  names := names
  inn := fun y c e => nomatch e
  has := fun y e => by
    have mem : ∀ (l : List (Str × NameKind)) (y : Str) (k : NameKind), l.lookup y = some k → ∃ z ∈ l, z.2 = k := by
      intro l
      induction l with
      | nil => intro y k e; cases e
      | cons a r ih =>
        intro y k e
        obtain ⟨n, q⟩ := a
        rw [List.lookup_cons] at e
        cases hy : y == n with
        | true => rw [hy] at e; exact ⟨(n, q), by simp, Option.some.inj e⟩
        | false =>
          rw [hy] at e
          obtain ⟨z, hz, e2⟩ := ih y k e
          exact ⟨z, by simp [hz], e2⟩
    exfalso
    have same : (relabel scope X.env).names = scope.names := by
      unfold relabel
      exact map_eq_self (l := scope.names) fun x hx => by
        obtain ⟨n, k⟩ := x
        have : (k == NameKind.free) = false := by simpa using h1 _ hx
        simp [this]
    rw [same] at e
    rcases e with e | e
    · obtain ⟨z, hz, e2⟩ := mem _ _ _ e; exact h2 z hz e2
    · obtain ⟨z, hz, e2⟩ := mem _ _ _ e; exact h1 z hz e2
  cap := fun k y e => by simp at e
  len := rfl

def st0 (own : List Str) (fr : List Nat) (σ : St) : St := own.map (fun _ => Option.none) ++ fr.map fun j => (σ[j]?).join

theorem cxComp_ok {X : Cx} {pins : List (Addr × Obj)} {σ : St} {H : Hp} {s : Shared} {own capt : List Str} {scope : Scope} {cl : List (Str × Addr)} {fr : List Nat} {fp : List Addr} (C : CompSc X own capt scope cl fr)
    (I : Inv X pins σ H s) (hf : ∀ b ∈ fp, FpOk X pins H b ∧ b < s.heap.objs.size) : (cxComp X (own ++ capt) scope cl s H fp).Ok where
  mod := I.ok.mod
  kind := C.kind
  glob := I.ok.glob
  blt := I.ok.blt
  above := Nat.le_refl _
  inj := fun x y c e1 e2 => I.ok.inj x y c (C.inn x c e1) (C.inn y c e2)
  has := fun x e => C.has x e
  cab := fun x c e _ => by cases e
  hd := I.ok.hd
  frames := I.ok.frames
  stk := .inl rfl
  exf := fun b hb => ⟨Nat.ne_of_lt (hf b hb).2, fun x c e => (hf b hb).1.2.2.2.2.1 x c (C.inn x c e)⟩
  bs := I.bs
  bsz := Nat.le_trans I.ok.bsz I.sz
  noex := fun b o e hb => by
    rcases (hf b hb).1.2.2.2.1 with z | z
    · exact I.ok.noex b o e z
    · exact absurd (Nat.lt_of_lt_of_le (Heap.lt_size e) (Nat.le_trans I.ok.bsz z)) (Nat.lt_irrefl _)
  exfs := fun b hb z => by
    rcases List.mem_cons.mp (I.stkSub b z) with e | z
    · exact (hf b hb).1.2.1 e
    · exact (hf b hb).1.2.2.1 z
  funs := I.stack
  frf := I.stkFree

theorem cxComp_start {X : Cx} {pins : List (Addr × Obj)} {σ : St} {H : Hp} {s : Shared} {own capt : List Str} {scope : Scope} {cl : List (Str × Addr)} {fr : List Nat} {fp : List Addr} {h' : Heap} {t' : Nat} {m' : Str → Option Value} (C : CompSc X own capt scope cl fr)
    (I : Inv X pins σ H s) (hf : ∀ b ∈ fp, FpOk X pins H b ∧ b < s.heap.objs.size) (hn : h'.Ns s.heap.objs.size m') (k : ∀ b o, s.heap.get? b = some o → h'.get? b = some o) :
    Inv (cxComp X (own ++ capt) scope cl s H fp) [] (st0 own fr σ) H { s with heap := h', toks := t' } where
  ok := cxComp_ok C I hf
  os := rfl
  bare := I.bare
  base := Un.kept k
  loc := by
    obtain ⟨m, _, hl⟩ := I.loc
    refine ⟨m', hn, fun i y v e1 e2 _ => ?_⟩
    have e1' : (own ++ capt)[i]? = some y := e1
    unfold st0 at e2
    by_cases hi : i < own.length
    · rw [List.getElem?_append_left (by simpa using hi)] at e2
      rw [List.getElem?_map] at e2
      cases q : own[i]? with
      | none => rw [q] at e2; cases e2
      | some _ => rw [q] at e2; cases e2
    · rw [List.getElem?_append_right (by simpa using hi)] at e2
      rw [List.getElem?_append_right (by simpa using hi)] at e1'
      simp only [List.length_map] at e2
      obtain ⟨j, c, f1, f2, f3, f4, f5⟩ := C.cap _ y e1'
      rw [List.getElem?_map, f1] at e2
      have e3 : (σ[j]?).join = some v := Option.some.inj e2
      have e4 : σ[j]? = some (some v) := by
        cases q : σ[j]? with
        | none => rw [q] at e3; cases e3
        | some z => rw [q] at e3; exact congrArg some e3
      obtain ⟨u, r, l⟩ := hl j y v f2 e4 (.inr (.inl f3))
      refine ⟨u, r, .inr ⟨f5, c, f4, ?_⟩⟩
      rcases l with ⟨k1, _⟩ | ⟨_, c', h1, h2⟩
      · have k1' : X.env.scope.names.lookup y = some .local := k1
        rw [f3] at k1'; cases k1'
      · rw [C.inn y c f4] at h1
        cases h1
        obtain ⟨o, ho, hd⟩ := h2
        exact ⟨o, k _ _ ho, hd⟩
  cell := fun y c e => by
    obtain ⟨v, o, ho, hd⟩ := I.cell y c (C.inn y c e)
    exact ⟨v, o, k _ _ ho, hd⟩
  free := I.hok.fresh (Nat.le_refl _)
  freeC := fun y c e => I.freeC y c (C.inn y c e)
  pin := fun p hp => by
    have : p ∈ ([] : List (Addr × Obj)) := hp
    cases this
  hok := I.hok.kept k
  len := by
    show (st0 own fr σ).length = (own ++ capt).length
    unfold st0
    simp [C.len]

theorem cxComp_end {X : Cx} {pins : List (Addr × Obj)} {σ σ' : St} {H H' : Hp} {s s' : Shared} {N : List Str} {scope : Scope} {cl : List (Str × Addr)} {fp : List Addr} {pins' : List (Addr × Obj)} {h' : Heap}
    (I : Inv X pins σ H s) (hf : ∀ b ∈ fp, FpOk X pins H b ∧ b < s.heap.objs.size) (J : Inv (cxComp X N scope cl s H fp) pins' σ' H' s') (hs : Heap.SameBut s.heap.objs.size s'.heap h') :
    Inv X pins σ H' { s' with heap := h' } := by
  have fr : H' s.heap.objs.size = none := J.free
  have ne : ∀ {b : Addr} {o : Obj}, s.heap.get? b = some o → b ≠ s.heap.objs.size := fun e => Nat.ne_of_lt (Heap.lt_size e)
  have B : Un (frs X.stack) fp H H' s.heap s'.heap := J.base
  refine I.call' (s' := { s' with heap := h' }) (ch := fp) J.os ?_ ?_ J.bare fun b hb => ⟨(hf b hb).1.2.2.2.1, (hf b hb).1.2.1, (hf b hb).1.2.2.2.2.1, (hf b hb).1.2.2.2.2.2⟩
  · exact ⟨fun b o e n h1 h2 => (hs.2 b (ne e)).trans (B.keep b o e n h1 h2), fun b o e n h1 h2 => let ⟨sl, q⟩ := B.slot b o e n h1 h2; ⟨sl, (hs.2 b (ne e)).trans q⟩, B.free,
      fun b o e h1 => let ⟨o', q⟩ := B.there b o e h1; ⟨o', (hs.2 b (ne e)).trans q⟩, B.tups, B.frzs, B.tbls⟩
  · intro b ob e
    refine (J.hok b ob e).stay (fun c w' hc q => (hs.2 c ?_).trans q) (fun _ q => q) fun _ _ q => q
    rintro rfl
    rcases hc with rfl | hc
    · rw [fr] at e; cases e
    · rw [fr] at hc; cases hc

def PTs (X : Cx) (ifs : List Expr) (t : TT) : Prop :=
  ∀ (pins : List (Addr × Obj)) (s : Shared) (σ : St) (H : Hp) (Q : Bool → Hp → Prop), Inv X pins σ H s → t σ H Q →
    wpAny (model X.prog X.w) X.A (forIn ifs true fun c r => if r = true then do let ok ← isTrue c X.env (eval c X.env); pure (ForInStep.yield ok) else pure (ForInStep.yield r)) (TP X pins σ Q) X.xe s
def tTrue : TT := fun _ H Q => Q true H
theorem pts_nil {X : Cx} : PTs X [] tTrue := fun _ _ _ H _ I h => wpAny_tests_nil ⟨H, I, h⟩
def tComp (wi : TI) (g : TG) (tt : TT) (te : TE) (own : List Str) (fr : List Nat) : TE := fun σ H Q => wi σ H fun J H1 => ∀ D, H1 D = none → ∃ W : Nat → Nat → St → Hp → Prop, (∃ m, W 0 m (st0 own fr σ) (upd H1 D (.lst []))) ∧ ∀ i m σc H, W i m σc H →
  (J.stop i H ∧ Q (.ref D) H) ∨ (J.go i H ∧ ∃ N : St → Hp → Prop, (∀ σ' H', N σ' H' → ∃ m', m' < m ∧ W (i + 1) m' σ' H') ∧ ∀ x H', J.yld i H x H' → g x σc H' fun σ2 H2 => tt σ2 H2 fun b H3 =>
    if b = true then te σ2 H3 fun y H4 => ∃ ys, H4 D = some (.lst ys) ∧ ys.length < sizeLine ∧ N σ2 (upd H4 D (.lst (ys ++ [y]))) else N σ2 H3)

theorem comp_core {X : Cx} {own capt : List Str} {scope : Scope} {cl : List (Str × Addr)} {fr : List Nat} {tg iter elt : Expr} {ifs : List Expr} {wi : TI} {g : TG} {tt : TT} {te : TE} {pos : Pos} (C : CompSc X own capt scope cl fr) (hc : X.calm = true)
    (hi : PI X tg iter wi) (hg : ∀ s H fp, PG (cxComp X (own ++ capt) scope cl s H fp) tg g) (ht : ∀ s H fp, PTs (cxComp X (own ++ capt) scope cl s H fp) ifs tt) (he : ∀ s H fp, PE (cxComp X (own ++ capt) scope cl s H fp) elt te)
    {pins : List (Addr × Obj)} {s : Shared} {σ : St} {H : Hp} {Q : VK} {RR : Value → Addr → Result → Shared → Prop} (I : Inv X pins σ H s) (h : tComp wi g tt te own fr σ H Q)
    (hR : ∀ (D C : Addr) (H' : Hp) (s' : Shared) (m : Str → Option Value), s'.heap.Ns C m → FpOk X pins H' C → (∀ h', Heap.SameBut C s'.heap h' → Inv X pins σ H' { s' with heap := h' }) → Q (.ref D) H' → RR (.ref D) C (.ok .next) s') :
    wpAny (model X.prog X.w) X.A (eval iter X.env) (fun x s₁ => wpAny (model X.prog X.w) X.A (pyIter x) (fun it s₂ => wpAny (model X.prog X.w) X.A (newList []) (fun acc s₃ =>
      wpAny (model X.prog X.w) X.A (newFunctionEnv scope X.env.globals cl [] X.env.qual none .none (some X.env)) (fun cenv s₄ =>
        codeAny (model X.prog X.w) X.A (.compStart (.ListComp elt [⟨tg, iter, ifs, 0⟩] scope pos) 0 it acc { cenv with scope := relabel scope X.env }) (RR acc cenv.locals) s₄) X.xe s₃) X.xe s₂) X.xe s₁) X.xe s := by
  refine thn (hi pins s σ H _ I h) fun v s1 h1 => thn h1 fun itv s2 h2 => ?_
  obtain ⟨it, fp, tn, J, H2, e, I2, T, st2, f2, h2⟩ := h2
  subst e
  obtain ⟨W, ⟨m0, w0⟩, turn⟩ := h2 s2.heap.objs.size I2.fresh
  refine wpAny_newObj_type ?_
  have I3 : Inv X pins σ (upd H2 s2.heap.objs.size (.lst [])) { s2 with heap := s2.heap.push { cls := .type "list", data := .seq ([] : List Value).toArray } } := I2.lnew (ys := []) (its := []) (t' := s2.toks) .nil (Nat.zero_le _)
  generalize hs3 : ({ s2 with heap := s2.heap.push { cls := .type "list", data := .seq ([] : List Value).toArray } } : Shared) = s3 at I3 ⊢
  have keep3 : ∀ b o, s2.heap.get? b = some o → s3.heap.get? b = some o := fun b o e => by rw [← hs3]; exact Heap.get?_push_of_some _ e
  have sz3 : s2.heap.objs.size < s3.heap.objs.size := by rw [← hs3]; show _ < (s2.heap.push _).objs.size; rw [Heap.size_push]; exact Nat.lt_succ_self _
  have fin : ∀ b ∈ fp, b < s2.heap.objs.size := fun b hb => by obtain ⟨o, e, _⟩ := T.obj _ _ st2 b hb; exact Heap.lt_size e
  have f3 : ∀ b ∈ fp, FpOk X pins (upd H2 s2.heap.objs.size (.lst [])) b ∧ b < s3.heap.objs.size := fun b hb => by
    obtain ⟨a1, a2⟩ := f2 b hb
    exact ⟨⟨by rw [upd_ne (Nat.ne_of_lt (fin b hb))]; exact a1, a2⟩, Nat.lt_trans (fin b hb) sz3⟩
  refine wpAny_newFunctionEnv C.nocell (by intro y hy; simp at hy) (fun h4 hn4 hs4 => ?_) C.kind
  have keep4 : ∀ b o, s3.heap.get? b = some o → h4.get? b = some o := fun b o e => (hs4.2 b (Nat.ne_of_lt (Heap.lt_size e))).trans (Heap.get?_push_of_some _ e)
  have I4 : Inv (cxComp X (own ++ capt) scope cl s3 (upd H2 s2.heap.objs.size (.lst [])) fp) [] (st0 own fr σ) (upd H2 s2.heap.objs.size (.lst [])) { s3 with heap := h4, toks := s3.toks + ([] : List (Str × Value)).length } := cxComp_start C I3 f3 hn4 keep4
  have st4 : tn 0 h4 := T.keep _ _ _ st2 fun b _ o e => keep4 b o (keep3 b o e)
  generalize hs5 : ({ s3 with heap := h4, toks := s3.toks + ([] : List (Str × Value)).length } : Shared) = s5 at I4 ⊢
  have st5 : tn 0 s5.heap := by rw [← hs5]; exact st4
  generalize hX : cxComp X (own ++ capt) scope cl s3 (upd H2 s2.heap.objs.size (.lst [])) fp = Y at I4
  have hY1 : Y.prog = X.prog := by rw [← hX]; rfl
  have hY2 : Y.w = X.w := by rw [← hX]; rfl
  have hY3 : Y.K = X.K := by rw [← hX]; rfl
  have hY4 : Y.A = X.A := by rw [← hX]; rfl
  have hY5 : Y.calm = true := by rw [← hX]; exact hc
  have hY6 : Y.env = compEnvC scope cl s3.heap.objs.size X.env := by rw [← hX]; rfl
  have hY7 : Y.xe = fun _ _ => False := by rw [← hX]; rfl
  have gY : PG Y tg g := by rw [← hX]; exact hg _ _ _
  have tY : PTs Y ifs tt := by rw [← hX]; exact ht _ _ _
  have eY : PE Y elt te := by rw [← hX]; exact he _ _ _
  have fY : ∀ {H' : Hp}, (∀ b ∈ fp, H' b = none) → ∀ b ∈ fp, FpOk Y [] H' b := fun {H'} hn b hb => by
    have ok := I4.ok
    refine ⟨hn b hb, (ok.exf b (by rw [← hX]; exact hb)).1, ok.exfs b (by rw [← hX]; exact hb), .inl (by rw [← hX]; exact hb), fun x c e => (ok.exf b (by rw [← hX]; exact hb)).2 x c e, fun p hp => ?_⟩
    have : p ∈ ([] : List (Addr × Obj)) := by rw [← hX] at hp; exact hp
    cases this
  have loop : ∀ s6, s6 = s5 → codeAny (model X.prog X.w) X.A (.compLoop (.ListComp elt [⟨tg, iter, ifs, 0⟩] scope pos) 0 (.ref it) (.ref s2.heap.objs.size) (compEnvC scope cl s3.heap.objs.size X.env)) (RR (.ref s2.heap.objs.size) s3.heap.objs.size) s6 := by
    rintro s6 rfl
    refine compLoop_any (fun n s' => ∃ i σ' H', Inv Y [] σ' H' s' ∧ tn i s'.heap ∧ (∀ b ∈ fp, H' b = none) ∧ W i n σ' H') ?_ m0 ⟨0, _, _, I4, st5, fun b hb => (f3 b hb).1.1, w0⟩
    rintro n s7 ⟨i, σ7, H7, I7, st7, fr7, w7⟩
    have pn := hY1; have pw := hY2
    rcases turn i n σ7 H7 w7 with ⟨stop, qn⟩ | ⟨go, N, hN, step⟩
    · have z := T.done Y hY1 hY2 hY3 hY5 i [] s7 σ7 H7 (fun _ _ => False) I7 (fY fr7) st7 stop
      rw [hY4] at z
      refine thn z fun r s8 ⟨hr, I8⟩ => ?_
      subst hr
      obtain ⟨m8, hn8, _⟩ := I8.loc
      rw [hY6] at hn8
      have fC : H7 s3.heap.objs.size = none := by have z := I8.free; rw [hY6] at z; exact z
      refine hR _ _ H7 s8 m8 hn8 (I3.fpOk (Nat.le_refl _) fC) (fun h' sb => ?_) qn
      rw [← hX] at I8
      exact cxComp_end I3 f3 I8 sb
    · have z := T.item Y hY1 hY2 hY3 hY5 i [] s7 σ7 H7 (fun _ _ => False) I7 (fY fr7) st7 go
      rw [hY4] at z
      refine thn z fun r s8 ⟨u, hr, h8⟩ => ?_
      subst hr
      refine thn h8 fun _ s9 ⟨x, H9, I9, r9, y9, st9, fr9⟩ => ?_
      have I9' := I9.pinned (fY fr9) (T.obj _ _ st9)
      have z2 := gY _ s9 σ7 H9 x u _ I9' r9 (step x H9 y9)
      rw [hY1, hY2, hY4, hY6, hY7] at z2
      refine thn z2 fun _ sA ⟨σA, HA, IA, qA⟩ => ?_
      have z3 := tY _ sA σA HA _ IA qA
      rw [hY1, hY2, hY4, hY6, hY7] at z3
      refine thn z3 fun b sB ⟨HB, IB, qB⟩ => ?_
      have again : ∀ {σZ : St} {HZ : Hp} {sZ : Shared}, Inv Y ([] ++ pinsAt fp s9.heap) σZ HZ sZ → N σZ HZ → ∃ m, m < n ∧ ∃ i σ' H', Inv Y [] σ' H' sZ ∧ tn i sZ.heap ∧ (∀ b ∈ fp, H' b = none) ∧ W i m σ' H' := fun {σZ HZ sZ} IZ nZ => by
        obtain ⟨m', hm, wZ⟩ := hN σZ HZ nZ
        refine ⟨m', hm, i + 1, σZ, HZ, IZ.unpinned, T.keep _ _ _ st9 fun b hb o e => (IZ.pin (b, o) (List.mem_append_right _ (List.mem_append_right _ (mem_pinsAt hb e)))).1, fun b hb => ?_, wZ⟩
        obtain ⟨o, e, d⟩ := T.obj _ _ st9 b hb
        exact (IZ.pin (b, o) (List.mem_append_right _ (List.mem_append_right _ (mem_pinsAt hb e)))).2.1
      cases b with
      | false => exact again IB qB
      | true =>
        have z4 := eY _ sB σA HB _ IB qB
        rw [hY1, hY2, hY4, hY6, hY7] at z4
        refine thn z4 fun y sC ⟨vy, HC, IC, rC, ys, hD, hz, nC⟩ => ?_
        have z5 := mt_append (X := Y) _ sC σA HC (.ref s2.heap.objs.size) [vy] (.ref s2.heap.objs.size) [y] (fun _ H' => N σA H') IC rfl (.cons rC .nil) ⟨_, ys, vy, rfl, rfl, hD, hz, nC⟩
        rw [hY1, hY2, hY4, hY7] at z5
        exact thn z5 fun _ sD ⟨_, HD, ID, _, nD⟩ => again ID nD
  exact codeAny_compStart_list (loop _ rfl) (T.self _ 0 _ _ _ st5 (loop _ rfl))

theorem pe_comp {X : Cx} {own capt : List Str} {scope : Scope} {cl : List (Str × Addr)} {fr : List Nat} {tg iter elt : Expr} {ifs : List Expr} {wi : TI} {g : TG} {tt : TT} {te : TE} {pos : Pos} (C : CompSc X own capt scope cl fr) (hc : X.calm = true)
    (hi : PI X tg iter wi) (hg : ∀ s H fp, PG (cxComp X (own ++ capt) scope cl s H fp) tg g) (ht : ∀ s H fp, PTs (cxComp X (own ++ capt) scope cl s H fp) ifs tt) (he : ∀ s H fp, PE (cxComp X (own ++ capt) scope cl s H fp) elt te)
    (hs : ∀ x, foldedSetIterable iter X.env x = pure x := by intro _; rfl) : PE X (.ListComp elt [⟨tg, iter, ifs, 0⟩] scope pos) (tComp wi g tt te own fr) := by
  intro pins s σ H Q I h
  rw [eval_ListComp]
  refine wpAny_comprehension_free (use := none) rfl hs C.clos C.kind C.names ?_
  exact comp_core (RR := fun acc C => compPost (model X.prog X.w) X.A X.xe none (EP X pins σ Q) acc C) C hc hi hg ht he I h fun D C H' s' m hn _ hI q => ⟨m, hn, fun h' sb => ⟨.ref D, H', hI h' sb, rfl, q⟩⟩

end L2
namespace L2
open PySem PySem.Spec PyProof.Rows
def Has (P : Program) (w : World) (K : PySem.W.Frag) (mg : Str → Option Value) (base : Heap) (k : Nat) (x : Str) (ps : List Str) (sp : Sp) : Prop :=
  ∃ f fd, FnOk P w K mg base CX0 k f fd ps sp ∧ (∀ us : List Value, us.length = ps.length → bindArgs fd ⟨us, []⟩ = pure (ps.zip us)) ∧ PySem.W.keepIn K (.ref f) = true ∧ mg x = some (.ref f) ∧ ∃ oc od osl, K.lookup f = some ⟨oc, od, .func fd, osl⟩
theorem Has.mono {P : Program} {w : World} {K : PySem.W.Frag} {mg : Str → Option Value} {base : Heap} {j k : Nat} {x : Str} {ps : List Str} {sp : Sp} (h : Has P w K mg base j x ps sp) (hk : j ≤ k) : Has P w K mg base k x ps sp :=
  let ⟨f, fd, F, b⟩ := h
  ⟨f, fd, F.mono hk, b⟩
theorem pe_def {X : Cx} {k : Nat} {x : Str} {ps : List Str} {sp : Sp} {p pos : Pos} {e : Expr} {es : List Expr} {t : TA} (h : Has X.prog X.w X.K X.mg X.base k x ps sp) (hr : Room k X.A) (ha : PA X (e :: es) t) (hg : Gl X x := by rfl)
    (hdb : (x == ("__debug__" : Str)) = false := by decide) (he : starEach (e :: es) X.env = (false, eval e X.env) :: starEach es X.env := by rfl) (hpl : (backTo pos (starEach es X.env)).any (·.1) = false := by rfl) :
    PE X (.Call (.Name x p) (e :: es) [] pos) (tCall sp [] E0 t) := by
  obtain ⟨f, fd, F, hb, hk, hm, _⟩ := h
  exact pe_call F hr hg hm hk (.all hb) .nil pass0 ha hdb he hpl
def TF (K : PySem.W.Frag) (mg : Str → Option Value) (x : Str) (st : Stmt) : Prop := ∃ f fd, Fun K x x st f fd ∧ mg x = some (.ref f)
theorem tf_mk {K : PySem.W.Frag} {h : Heap} {mg : Str → Option Value} {x : Str} {st : Stmt} {f : Addr} {oc : Value} {od an : Option Addr} {osl : Array (Option Value)} {kV doc pm cdv ct : Value} (X : K.In h) (G : h.Ns mainGlobals mg)
    (a : PySem.W.nsIn K mainGlobals x = some (some (.ref f))) (l : K.lookup f = some ⟨oc, od, .func (PySem.W.fnOf x x (defArgs st) (defBody st) (defScope st) .none kV doc pm an cdv ct), osl⟩) (c : PySem.W.codeIn K cdv x = true) (k : PySem.W.keepIn K (.ref f) = true) : TF K mg x st :=
  ⟨f, _, fun_mk l c k, PySem.W.mg_of X G a⟩
theorem TF.has {P : Program} {w : World} {K : PySem.W.Frag} {mg : Str → Option Value} {base : Heap} {x : Str} {st : Stmt} {N ps : List Str} {k : Nat} {sp : Sp} (T : TF K mg x st) (S : FnScope N ps (defScope st))
    (hb : ∀ (kV doc pm : Value) (an : Option Addr) (cdv ct : Value) (us : List Value), us.length = ps.length → bindArgs (PySem.W.fnOf x x (defArgs st) (defBody st) (defScope st) .none kV doc pm an cdv ct) ⟨us, []⟩ = pure (ps.zip us))
    (len : ∀ vs H Q E, sp vs H Q E → vs.length = ps.length)
    (hbody : ∀ (f : Addr) (cdv : Value) (A : Around) (outer : List Env) (s : Shared) (H : Hp) (vs : List V) (Q : VK) (E : XK), Room k (A.deeper (envOfC x (defScope st) s.heap.objs.size f cdv)) → sp vs H Q E →
      ∃ t, PSs (cxOf CX0 P w K mg base N x (defScope st) f cdv A outer s H E).nox (defBody st) t ∧ t { nx := fun _ H' => Q .non H', rt := Q } (start N vs) H) : Has P w K mg base (k + 1) x ps sp := by
  obtain ⟨f, fd, F, m⟩ := T
  have ok := F.ok (P := P) (w := w) (mg := mg) (base := base) S len fun cdv A outer s H vs Q E hr hsp => hbody f cdv A outer s H vs Q E hr hsp
  obtain ⟨oc, od, kV, doc, pm, an, cdv, ct, osl, rfl, lk, hcd⟩ := F.ex
  exact ⟨f, _, ok, hb kV doc pm an cdv ct, F.kp, m, oc, od, osl, lk⟩
theorem has_law {P : Program} {w : World} {K : PySem.W.Frag} {mg : Str → Option Value} {h : Heap} {k : Nat} {sp : Sp} {fa : Addr} (KX : K.In h) (G : h.Ns mainGlobals mg) (hfa : mg "law" = some (.ref fa))
    (H : ∀ base : Heap, K.In base → base.Ns mainGlobals mg → Has P w K mg base k "law" ["script"] sp) :
    ∃ fd : FuncData, (∀ (s : Shared) (v : Value), BindsTo s fd ⟨[v], []⟩ [("script", v)]) ∧ ∀ base : Heap, K.In base → base.Ns mainGlobals mg → FnOk P w K mg base CX0 k fa fd ["script"] sp := by
  obtain ⟨f, fd, F, hb, hk, hm, oc, od, osl, hl⟩ := H h KX G
  rw [hfa] at hm
  cases hm
  refine ⟨fd, fun s v => .of_eq (hb [v] rfl), fun base kb nb => ?_⟩
  obtain ⟨f', fd', F', _, _, hm', oc', od', osl', hl'⟩ := H base kb nb
  rw [hfa] at hm'
  cases hm'
  rw [hl] at hl'
  cases hl'
  exact F'

theorem bits_weight {ns : List Int} : ∀ z ∈ ns, Builtin.Int.intBits z ≤ PySem.W.WData.weightAll (ns.map PySem.W.WData.int) := by
  induction ns with
  | nil => intro z hz; cases hz
  | cons a r ih =>
    intro z hz
    rw [List.map_cons]
    show _ ≤ PySem.W.WData.weight (.int a) + 1 + PySem.W.WData.weightAll (r.map PySem.W.WData.int)
    rcases List.mem_cons.mp hz with e | hz
    · subst e
      have : PySem.W.WData.weight (.int z) = Builtin.Int.intBits z := rfl
      omega
    · have := ih z hz
      omega
open PySem.W in
theorem law_walk {l : PySem.W.OpenLaw} {k : Nat} {q : Program} {loose : List Str} {XP : (Str → Option Value) → Heap → Prop} {YP : World → Heap → Prop} {d : DefRec} {K : Params → PySem.W.Frag} {sp : PySem.W.Frag → Sp}
    (hn : l.most = some 63) (hdf : d.params.defaults = []) (hr : Room k callerA)
    (hY : ∀ (w : World) (h : Heap), YP w h → (K w.params).In h)
    (F : ∀ (w : World) (mg : Str → Option Value) (fa : Addr) (h : Heap), (K w.params).In h → h.Ns mainGlobals mg → mg d.name = some (.ref fa) →
      ∃ fd : FuncData, (∀ (s : Shared) (u : Value), BindsTo s fd ⟨[u], []⟩ [("script", u)]) ∧
        ∀ base : Heap, (K w.params).In base → base.Ns mainGlobals mg → FnOk l.prog w (K w.params) mg base CX0 k fa fd ["script"] (sp (K w.params)))
    (hsp : ∀ (K : PySem.W.Frag) (H : Hp) (a : Addr) (ns : List Int), ns.length ≤ 63 → (∀ z ∈ ns, Builtin.Int.intBits z ≤ 2 ^ 20) → SqL K H a (ns.map V.int) → sp K [.ref a] H (fun v _ => v = .bl true) fun _ _ _ => False) :
    PySem.W.WalkO q loose XP YP l.row.toRowW d [] (fun f vs => PySem.call f vs) := by
  intro w s₀ s₁ mg mb G Y fa o pm cd doc dV kV ho hd hcd hD hmg hg args vals as hpre hlay hrd hwl hlo
  obtain rfl : dV = .none := Dflts.none hD hdf
  obtain rfl : kV = .none := Dflts.noKw hD
  obtain ⟨a, vs, ns, rfl, rfl, hobj, hints, hlen⟩ := Att.script_of hn hpre hwl
  have hbits : ∀ z ∈ ns, Builtin.Int.intBits z ≤ 2 ^ 20 := fun z hz => by
    have h1 : WData.layable (WData.list (ns.map WData.int)) = true := by
      have := hlay
      simp only [WData.layableAll, List.all_cons, List.all_nil, Bool.and_true] at this
      exact this
    unfold WData.layable at h1
    have h2 : WData.weight (WData.list (ns.map WData.int)) ≤ 2 ^ 20 := by
      have := (Bool.and_eq_true_iff.mp h1).2
      exact of_decide_eq_true this
    exact Nat.le_trans (bits_weight z hz) h2
  have KX := hY w _ Y
  obtain ⟨fd, hb, hF⟩ := F w mg fa _ KX G.T.g hmg
  refine enter_call (codeAny_mono (law_call (CX := CX0) (sp := sp (K w.params)) KX G.T.g G.T.b G.T.builtins G.T.nolimit hg hobj hints (Nat.le_trans hlen (by decide)) hr hF hb (fun H _ hS => hsp _ H a ns hlen hbits hS) fun _ _ _ z => z) fun r s' hq => ?_)
  obtain ⟨rfl, h2, h3, h4⟩ := hq
  exact ⟨.inl ⟨.bool true, .bool true, [], rfl, fun _ => rfl, .bool true, Att.post_true l _, fun _ => ⟨List.Pairwise.nil, fun _ hm => (nomatch hm)⟩⟩, h2, h3, h4⟩

def CDivA (_ j : Int) : Prop := 0 < j ∧ j.natAbs.log2 < 9000
theorem op_fdivA {X : Cx} : OpR X (binaryOp .FloorDiv) (rI CDivA fun i j => .int (i / j)) := opI fun i j _ _ _ _ _ hc q => by
  refine floordiv_int (by have := hc.1; omega) ?_ (.inl (PyProof.noPylong_of_log2 hc.2))
  rw [Int.fdiv_eq_ediv_of_nonneg i (Int.le_of_lt hc.1)]
  exact q
theorem divA {i j : Int} (n : Nat) (h0 : 0 < j) (h : j.natAbs < 2 ^ n) (hn : n ≤ 9000) : CDivA i j := ⟨h0, Nat.lt_of_lt_of_le ((Nat.log2_lt (by omega)).mpr h) hn⟩

def rIsI (K : PySem.W.Frag) : List V → Hp → VK → Prop := fun xs H Q => ∃ x T t b, xs = [x, .ty T] ∧ TyOf K H x t ∧ PySem.W.kitOne K t (.type T) = some b ∧ Q (.bl b) H
theorem call_isI {X : Cx} : CallR X (.builtin "isinstance") (rIsI X.K) := by
  intro pins s σ H xs us Q I r h
  obtain ⟨x, T, t, b, rfl, ty, e, q⟩ := h
  obtain ⟨u, c, rfl, r1, r2⟩ := Vals.two r
  obtain rfl : c = Value.type T := r2
  exact isinst_ok I r1 ty e fun tk => ⟨.bl b, H, I.tok tk, rfl, q⟩

section
variable {D : Ends} {σ : St} {H : Hp} {Q : VK}
theorem tSeq_ap {t u : TS} : tSeq t u D σ H = t { D with nx := u D } σ H := rfl
theorem tIfS_ap {c : TT} {t u : TS} : tIfS c t u D σ H = c σ H fun b H1 => if b = true then t D σ H1 else u D σ H1 := rfl
theorem tAsg_ap {te : TE} {g : TG} : tAsg te g D σ H = te σ H fun x H1 => g x σ H1 D.nx := rfl
theorem gName_ap {i : Nat} {v : V} {R : St → Hp → Prop} : gName i v σ H R = R (σ.set i (some v)) H := rfl
theorem tRet_ap {te : TE} : tRet te D σ H = te σ H D.rt := rfl
theorem tRetN_ap : tRetN D σ H = D.rt .non H := rfl
theorem tNext_ap : tNext D σ H = D.nx σ H := rfl
theorem tBreak_ap : tBreak D σ H = D.bk σ H := rfl
theorem tCont_ap : tCont D σ H = D.ct σ H := rfl
theorem tDrop_ap {te : TE} : tDrop te D σ H = te σ H fun _ H1 => D.nx σ H1 := rfl
theorem tC_ap {v : V} : tC v σ H Q = Q v H := rfl
theorem tVar_ap {i : Nat} {v : V} (h : σ[i]? = some (some v)) : tVar i σ H Q = Q v H := propext ⟨fun ⟨u, e, q⟩ => by rw [h] at e; cases e; exact q, fun q => ⟨v, h, q⟩⟩
theorem tVar_0 {v : V} {l : St} : tVar 0 (some v :: l) H Q = Q v H := tVar_ap rfl
theorem tVar_s {i : Nat} {o : Option V} {l : St} : tVar (i + 1) (o :: l) H Q = tVar i l H Q := rfl
theorem tOp_ap {r : R2} {ta tb : TE} : tOp r ta tb σ H Q = ta σ H fun x H1 => tb σ H1 fun y H2 => r x y H2 Q := rfl
theorem tUn_ap {r : V → Hp → VK → Prop} {ta : TE} : tUn r ta σ H Q = ta σ H fun x H1 => r x H1 Q := rfl
theorem rI0_ap {g : Int → Int → V} {i j : Int} : rI0 g (.int i) (.int j) H Q = Q (g i j) H := propext ⟨fun ⟨a, b, e1, e2, q⟩ => by cases e1; cases e2; exact q, fun q => ⟨i, j, rfl, rfl, q⟩⟩
theorem rI_ap {C : Int → Int → Prop} {g : Int → Int → V} {i j : Int} : rI C g (.int i) (.int j) H Q = (C i j ∧ Q (g i j) H) := propext ⟨fun ⟨a, b, e1, e2, q⟩ => by cases e1; cases e2; exact q, fun q => ⟨i, j, rfl, rfl, q⟩⟩
theorem rU_ap {g : Int → V} {i : Int} : rU g (.int i) H Q = Q (g i) H := propext ⟨fun ⟨a, e1, q⟩ => by cases e1; exact q, fun q => ⟨i, rfl, q⟩⟩
theorem rEq_int {i j : Int} : rEq (.int i) (.int j) H Q = Q (.bl (decide (i = j))) H := propext ⟨fun ⟨_, q⟩ => by simpa using q, fun q => ⟨rfl, by simpa using q⟩⟩
theorem rNe_int {i j : Int} : rNe (.int i) (.int j) H Q = Q (.bl (!decide (i = j))) H := propext ⟨fun ⟨_, q⟩ => by simpa using q, fun q => ⟨rfl, by simpa using q⟩⟩
theorem tTest_ap {t : TE} {R : Bool → Hp → Prop} : tTest t σ H R = t σ H fun x H' => ∃ k, x = .bl k ∧ R k H' := rfl
theorem ex_bl {b : Bool} {R : Bool → Prop} : (∃ k, V.bl b = .bl k ∧ R k) = R b := propext ⟨fun ⟨k, e, q⟩ => by cases e; exact q, fun q => ⟨b, rfl, q⟩⟩
theorem ex_ref {a : Addr} {R : Addr → Prop} : (∃ k, V.ref a = .ref k ∧ R k) = R a := propext ⟨fun ⟨k, e, q⟩ => by cases e; exact q, fun q => ⟨a, rfl, q⟩⟩
theorem ex_int {a : Int} {R : Int → Prop} : (∃ k, V.int a = .int k ∧ R k) = R a := propext ⟨fun ⟨k, e, q⟩ => by cases e; exact q, fun q => ⟨a, rfl, q⟩⟩
theorem tAnd_ap {t u : TT} {R : Bool → Hp → Prop} : tAnd t u σ H R = t σ H fun c H1 => if c = true then u σ H1 R else R false H1 := rfl
theorem tOr_ap {t u : TT} {R : Bool → Hp → Prop} : tOr t u σ H R = t σ H fun c H1 => if c = true then R true H1 else u σ H1 R := rfl
theorem tNot_ap {t : TT} {R : Bool → Hp → Prop} : tNot t σ H R = t σ H fun c H1 => R (!c) H1 := rfl
theorem tAndV_ap {ta tb : TE} : tAndV ta tb σ H Q = ta σ H fun x H1 => ∃ c, x = .bl c ∧ if c = true then tb σ H1 Q else Q (.bl false) H1 := rfl
theorem tOrV_ap {ta tb : TE} : tOrV ta tb σ H Q = ta σ H fun x H1 => ∃ c, x = .bl c ∧ if c = true then Q (.bl true) H1 else tb σ H1 Q := rfl
theorem tNotV_ap {ta : TE} : tNotV ta σ H Q = ta σ H fun x H1 => ∃ c, x = .bl c ∧ Q (.bl (!c)) H1 := rfl
theorem tIf_ap {t : TT} {ta tb : TE} : tIf t ta tb σ H Q = t σ H fun c H1 => if c = true then ta σ H1 Q else tb σ H1 Q := rfl
theorem tNil_ap {R : List V → Hp → Prop} : tNil σ H R = R [] H := rfl
theorem tCons_ap {ta : TE} {tr : TA} {R : List V → Hp → Prop} : tCons ta tr σ H R = ta σ H fun x H1 => tr σ H1 fun xs H2 => R (x :: xs) H2 := rfl
theorem tTup_ap {t : TA} : tTup t σ H Q = t σ H fun xs H1 => xs.length ≤ sizeLine ∧ ∀ p, H1 p = none → Q (.ref p) (upd H1 p (.tup xs)) := rfl
theorem tLst_ap {t : TA} : tLst t σ H Q = t σ H fun xs H1 => xs.length ≤ sizeLine ∧ ∀ p, H1 p = none → Q (.ref p) (upd H1 p (.lst xs)) := rfl
theorem tCall_ap {sp : Sp} {dvs : List V} {E : XK} {t : TA} : tCall sp dvs E t σ H Q = t σ H fun vs H1 => sp (vs ++ dvs) H1 Q E := rfl
theorem tCB_ap {r : List V → Hp → VK → Prop} {t : TA} : tCB r t σ H Q = t σ H fun vs H1 => r vs H1 Q := rfl
theorem tChain_ap {r r' : R2} {ta tb tc : TE} : tChain r r' ta tb tc σ H Q = ta σ H fun x H1 => tb σ H1 fun y H2 => r x y H2 fun z H3 => ∃ k, z = .bl k ∧ (if k = true then tc σ H3 fun w' H4 => r' y w' H4 Q else Q (.bl false) H3) := rfl
theorem tPar_ap {i j : Nat} {ta : TA} : tPar i j ta D σ H = ta σ H fun vs H1 => ∃ v w, vs = [v, w] ∧ D.nx ((σ.set i (some v)).set j (some w)) H1 := rfl
theorem ex_two {v w : V} {R : V → V → Prop} : (∃ a b, [v, w] = [a, b] ∧ R a b) = R v w := propext ⟨fun ⟨a, b, e, q⟩ => by cases e; exact q, fun q => ⟨v, w, rfl, q⟩⟩
theorem tAug_ap {i : Nat} {te : TE} {ti : TIp} : tAug i te ti D σ H = tVar i σ H fun x _ => te σ H fun y H1 => ti x y H1 fun z H2 => D.nx (σ.set i (some z)) H2 := rfl
theorem ipI_ap {f : Int → Int → Int} {i j : Int} : ipI f (.int i) (.int j) H Q = Q (.int (f i j)) H := propext ⟨fun ⟨a, b, e1, e2, q⟩ => by cases e1; cases e2; exact q, fun q => ⟨i, j, rfl, rfl, q⟩⟩
theorem tSl_ap {r : V → Option Int → Option Int → Hp → VK → Prop} {te : TE} {tl th : TO} : tSl r te tl th σ H Q = te σ H fun x H1 => tl σ H1 fun l H2 => th σ H2 fun u H3 => r x l u H3 Q := rfl
theorem tNoPart_ap {R : Option Int → Hp → Prop} : tNoPart σ H R = R none H := rfl
theorem tPart_ap {t : TE} {R : Option Int → Hp → Prop} : tPart t σ H R = t σ H fun x H1 => ∃ i, x = .int i ∧ R (some i) H1 := rfl
theorem tBM_ap {K : PySem.W.Frag} {T : String} {r : V → List V → Hp → VK → Prop} {to : TE} {t : TA} : tBM K T r to t σ H Q = to σ H fun x H1 => tyV K T x H1 ∧ t σ H1 fun xs H2 => r x xs H2 Q := rfl
theorem tTrue_ap {R : Bool → Hp → Prop} : tTrue σ H R = R true H := rfl
theorem gSub_ap {to ti : TE} {t : TSet} {v : V} {R : St → Hp → Prop} : gSub to ti t v σ H R = to σ H fun o H1 => ti σ H1 fun i H2 => t o i v H2 fun H3 => R σ H3 := rfl
theorem ite_and {c : Prop} [Decidable c] {A B : Prop} : (if c then A else B) = ((c → A) ∧ (¬ c → B)) := by
  by_cases h : c
  · simp [h]
  · simp [h]
def oV : Option Int → V
  | some i => .int i
  | none => .non
end
end L2
namespace L2
open PySem PySem.Spec PyProof.Rows
theorem cxOf_K {CX : CXT} {P : Program} {w : World} {K : PySem.W.Frag} {mg : Str → Option Value} {base : Heap} {N : List Str} {qual : Str} {scope : Scope} {f : Addr} {cd : Value} {A : Around} {outer : List Env} {s : Shared} {H : Hp} {E : XK} : (cxOf CX P w K mg base N qual scope f cd A outer s H E).K = K := rfl
theorem cxComp_K {X : Cx} {N : List Str} {scope : Scope} {cl : List (Str × Addr)} {s : Shared} {H : Hp} {fp : List Addr} : (cxComp X N scope cl s H fp).K = X.K := rfl
section
variable {D : Ends} {σ : St} {H : Hp} {Q : VK}
def ForW (J : It) (g : TG) (tb : TS) (D : Ends) (σ : St) (H : Hp) : Prop := ∃ W : Nat → Nat → St → Hp → Prop, (∃ m, W 0 m σ H) ∧ ∀ i m σ H, W i m σ H →
  (J.stop i H ∧ D.nx σ H) ∨ (J.go i H ∧ ∃ N : St → Hp → Prop, (∀ σ' H', N σ' H' → ∃ m', m' < m ∧ W (i + 1) m' σ' H') ∧ ∀ x H', J.yld i H x H' → g x σ H' fun σ2 H2 => tb { D with nx := N, ct := N, bk := D.nx } σ2 H2)
theorem tFor_ap {wi : TI} {g : TG} {tb : TS} : tFor wi g tb D σ H = wi σ H fun J H1 => ForW J g tb D σ H1 := rfl
theorem forW_list {K : PySem.W.Frag} {a : Addr} {xs : List V} {g : TG} {tb : TS} (Pv : Nat → St → Hp → Prop) (h0 : Pv 0 σ H) (hl : ∀ i σ H, i ≤ xs.length → Pv i σ H → SqL K H a xs)
    (hs : ∀ i x σ H, xs[i]? = some x → Pv i σ H → g x σ H fun σ2 H2 => tb { D with nx := Pv (i + 1), ct := Pv (i + 1), bk := D.nx } σ2 H2) (hd : ∀ σ H, Pv xs.length σ H → D.nx σ H) : ForW (Itl K a) g tb D σ H := for_list Pv h0 hl hs hd
theorem iRng1_ap {ta : TA} {R : It → Hp → Prop} : iRng1 ta σ H R = ta σ H fun vs H1 => ∃ j : Int, vs = [.int j] ∧ -(2 ^ 62) ≤ j ∧ j < 2 ^ 62 ∧ R (Itr 0 j.toNat) H1 := rfl
theorem iRng2_ap {ta : TA} {R : It → Hp → Prop} : iRng2 ta σ H R = ta σ H fun vs H1 => ∃ i j : Int, vs = [.int i, .int j] ∧ (-(2 ^ 62) ≤ i ∧ i < 2 ^ 62 ∧ -(2 ^ 62) ≤ j ∧ j < 2 ^ 62) ∧ R (Itr i (j - i).toNat) H1 := rfl
theorem iList_ap {K : PySem.W.Frag} {tl : TE} {R : It → Hp → Prop} : iList K tl σ H R = tl σ H fun x H1 => ∃ a, x = .ref a ∧ (∃ xs, SqL K H1 a xs) ∧ R (Itl K a) H1 := rfl
theorem iTup_ap {K : PySem.W.Frag} {tl : TE} {R : It → Hp → Prop} : iTup K tl σ H R = tl σ H fun x H1 => ∃ a, x = .ref a ∧ (∃ xs, SqT K H1 a xs) ∧ R (Itt K a) H1 := rfl
def CompW (J : It) (g : TG) (tt : TT) (te : TE) (own : List Str) (fr : List Nat) (σ : St) (H1 : Hp) (Q : VK) : Prop := ∀ D, H1 D = none → ∃ W : Nat → Nat → St → Hp → Prop, (∃ m, W 0 m (st0 own fr σ) (upd H1 D (.lst []))) ∧ ∀ i m σc H, W i m σc H →
  (J.stop i H ∧ Q (.ref D) H) ∨ (J.go i H ∧ ∃ N : St → Hp → Prop, (∀ σ' H', N σ' H' → ∃ m', m' < m ∧ W (i + 1) m' σ' H') ∧ ∀ x H', J.yld i H x H' → g x σc H' fun σ2 H2 => tt σ2 H2 fun b H3 =>
    if b = true then te σ2 H3 fun y H4 => ∃ ys, H4 D = some (.lst ys) ∧ ys.length < sizeLine ∧ N σ2 (upd H4 D (.lst (ys ++ [y]))) else N σ2 H3)
theorem tComp_ap {wi : TI} {g : TG} {tt : TT} {te : TE} {own : List Str} {fr : List Nat} : tComp wi g tt te own fr σ H Q = wi σ H fun J H1 => CompW J g tt te own fr σ H1 Q := rfl
def CompN (Sv : St → Prop) (Pv : Addr → Nat → List V → Hp → Prop) (D : Addr) (i : Nat) (σ : St) (H : Hp) : Prop := Sv σ ∧ ∃ ys, H D = some (.lst ys) ∧ ys.length ≤ i ∧ Pv D i ys H
def CompP (Sv : St → Prop) (Pv : Addr → Nat → List V → Hp → Prop) (D : Addr) (i : Nat) (σ2 : St) (y : V) (H4 : Hp) : Prop := ∃ ys, H4 D = some (.lst ys) ∧ ys.length < sizeLine ∧ CompN Sv Pv D (i + 1) σ2 (upd H4 D (.lst (ys ++ [y])))
theorem CompP.mk {Sv : St → Prop} {Pv : Addr → Nat → List V → Hp → Prop} {D : Addr} {i : Nat} {σ2 : St} {y : V} {H4 : Hp} {ys : List V} (h : H4 D = some (.lst ys)) (hl : ys.length ≤ i) (hi : i < sizeLine) (hS : Sv σ2) (hP : Pv D (i + 1) (ys ++ [y]) (upd H4 D (.lst (ys ++ [y])))) :
    CompP Sv Pv D i σ2 y H4 := ⟨ys, h, Nat.lt_of_le_of_lt hl hi, hS, _, upd_same, by simp; omega, hP⟩
theorem compW_list {K : PySem.W.Frag} {a : Addr} {xs : List V} {g : TG} {tt : TT} {te : TE} {own : List Str} {fr : List Nat} (Sv : St → Prop) (Pv : Addr → Nat → List V → Hp → Prop) (hS : Sv (st0 own fr σ))
    (h0 : ∀ D, H D = none → Pv D 0 [] (upd H D (.lst []))) (hl : ∀ D i ys H', H' D = some (.lst ys) → Pv D i ys H' → SqL K H' a xs)
    (hs : ∀ D i x ys σ H', xs[i]? = some x → i < xs.length → Sv σ → H' D = some (.lst ys) → ys.length ≤ i → Pv D i ys H' → g x σ H' fun σ2 H2 => tt σ2 H2 fun b H3 => if b = true then te σ2 H3 fun y H4 => CompP Sv Pv D i σ2 y H4 else CompN Sv Pv D (i + 1) σ2 H3)
    (hd : ∀ D ys H', H' D = some (.lst ys) → Pv D xs.length ys H' → Q (.ref D) H') : CompW (Itl K a) g tt te own fr σ H Q := by
  intro D hD
  refine ⟨fun i m σ H => m = xs.length - i ∧ i ≤ xs.length ∧ CompN Sv Pv D i σ H, ⟨_, rfl, Nat.zero_le _, hS, [], upd_same, Nat.le_refl _, h0 D hD⟩, ?_⟩
  rintro i m σ1 H1 ⟨rfl, hi, hs1, ys, hy, hy2, p⟩
  have q := hl D i ys H1 hy p
  by_cases hlt : i < xs.length
  · refine .inr ⟨⟨xs, xs[i], q, by simp [hlt]⟩, CompN Sv Pv D (i + 1), fun σ' H' p' => ⟨xs.length - (i + 1), by omega, rfl, hlt, p'⟩, fun x H' y => ?_⟩
    obtain ⟨e, y⟩ := y
    subst e
    exact hs D i x ys σ1 _ (y xs q) hlt hs1 hy hy2 p
  · have e : i = xs.length := by omega
    subst e
    exact .inl ⟨⟨xs, q, Nat.le_refl _⟩, hd D ys H1 hy p⟩
theorem rIxL_mk {K : PySem.W.Frag} {p : Addr} {xs : List V} {i : Int} {v : V} (h : SqL K H p xs) (e : atI xs i = some v) (q : Q v H) : rIxL K (.ref p) (.int i) H Q := ⟨p, xs, i, v, rfl, rfl, h, e, q⟩
theorem atI_getD {zs : List Int} {i : Int} (h0 : 0 ≤ i) (h1 : i < zs.length) : atI (zs.map V.int) i = some (.int (zs.getD i.toNat 0)) := by
  have hk : i.toNat < zs.length := by omega
  have ek : i = ((i.toNat : Nat) : Int) := by omega
  have q : atI (zs.map V.int) ((i.toNat : Nat) : Int) = some (.int (zs.getD i.toNat 0)) := atI_nat (by rw [List.getElem?_map, List.getElem?_eq_getElem hk, List.getD_eq_getElem?_getD, List.getElem?_eq_getElem hk]; rfl)
  rw [← ek] at q
  exact q
theorem Same.write {H H' : Hp} (g : Same H H') {p : Addr} (n : H p = none) (o : HO) : Same H (upd H' p o) := fun b u e => by rw [upd_ne (ne_of_none e n)]; exact g b u e
theorem gCons_ap {t : TG} {u : TGs} {v : V} {r : List V} {R : St → Hp → Prop} : gCons t u (v :: r) σ H R = t v σ H fun σ' H' => u r σ' H' R := propext ⟨fun ⟨a, b, e, q⟩ => by cases e; exact q, fun q => ⟨v, r, rfl, q⟩⟩
theorem gNil_ap {R : St → Hp → Prop} : gNil [] σ H R = R σ H := propext ⟨fun ⟨_, q⟩ => q, fun q => ⟨rfl, q⟩⟩
theorem tB_ap {t : TE} {R : Bool → Hp → Prop} : tB t σ H R = t σ H fun x H1 => ∃ c, x = .bl c ∧ R c H1 := rfl
theorem same_new {H : Hp} {p : Addr} (h : H p = none) (o : HO) : Same H (upd H p o) := fun b u q => by rw [upd_ne (ne_of_none q h)]; exact q
end
end L2
namespace L2
open PySem PySem.Spec PyProof.Rows
def Itv (K : PySem.W.Frag) (a : Addr) (n : Nat) : It :=
  ⟨fun i H => i < n ∧ ∃ xs, SqL K H a xs ∧ xs.length = n, fun i H x H' => H' = H ∧ ∀ xs, SqL K H a xs → xs[n - 1 - i]? = some x, fun i _ => i = n⟩
def iRev (K : PySem.W.Frag) (ta : TE) : TI := fun σ H R => ta σ H fun x H1 => ∃ a xs, x = .ref a ∧ SqL K H1 a xs ∧ R (Itv K a xs.length) H1
section
variable {X : Cx} {tg : Expr}
end
theorem iRev_ap {K : PySem.W.Frag} {tl : TE} {σ : St} {H : Hp} {R : It → Hp → Prop} : iRev K tl σ H R = tl σ H fun x H1 => ∃ a xs, x = .ref a ∧ SqL K H1 a xs ∧ R (Itv K a xs.length) H1 := rfl
end L2
namespace L2
open PySem PySem.Spec PyProof.Rows
def tCut (t : TS) : TS := fun D σ H => ∃ M : St → Hp → Prop, t { D with nx := M } σ H ∧ ∀ σ' H', M σ' H' → D.nx σ' H'
theorem ps_cut {X : Cx} {st : Stmt} {t : TS} (h : PS X st t) : PS X st (tCut t) := by
  intro pins s σ H D I hw
  obtain ⟨M, h1, h2⟩ := hw
  refine thn (h pins s σ H _ I h1) fun f s1 q => ?_
  cases f with
  | next => obtain ⟨σ', H', I', q⟩ := q; exact ⟨σ', H', I', h2 σ' H' q⟩
  | ret v => exact q
  | brk => exact q
  | cont => exact q
section
variable {X : Cx}
end
theorem isI_ii {K : PySem.W.Frag} {H : Hp} {Q : VK} {d : Int} : rIsI K [.int d, .ty "int"] H Q = Q (.bl true) H := propext ⟨fun ⟨x, T, t, b, e, ty, k, q⟩ => by
    cases e
    cases ty
    have : PySem.W.kitOne K (.type "int") (.type "int") = some true := rfl
    rw [this] at k
    cases k
    exact q, fun q => ⟨_, _, _, true, rfl, .int d, rfl, q⟩⟩
theorem isI_ib {K : PySem.W.Frag} {H : Hp} {Q : VK} {d : Int} : rIsI K [.int d, .ty "bool"] H Q = Q (.bl false) H := propext ⟨fun ⟨x, T, t, b, e, ty, k, q⟩ => by
    cases e
    cases ty
    have : PySem.W.kitOne K (.type "int") (.type "bool") = some false := rfl
    rw [this] at k
    cases k
    exact q, fun q => ⟨_, _, _, false, rfl, .int d, rfl, q⟩⟩
theorem isI_ni {K : PySem.W.Frag} {H : Hp} {Q : VK} : rIsI K [.non, .ty "int"] H Q = Q (.bl false) H := propext ⟨fun ⟨x, T, t, b, e, ty, k, q⟩ => by
    cases e
    cases ty
    have : PySem.W.kitOne K (.type "NoneType") (.type "int") = some false := rfl
    rw [this] at k
    cases k
    exact q, fun q => ⟨_, _, _, false, rfl, .non, rfl, q⟩⟩
theorem isI_bb {K : PySem.W.Frag} {H : Hp} {Q : VK} {d : Bool} : rIsI K [.bl d, .ty "bool"] H Q = Q (.bl true) H := propext ⟨fun ⟨x, T, t, b, e, ty, k, q⟩ => by
    cases e
    cases ty
    have : PySem.W.kitOne K (.type "bool") (.type "bool") = some true := rfl
    rw [this] at k
    cases k
    exact q, fun q => ⟨_, _, _, true, rfl, .bl d, rfl, q⟩⟩
def cutI (ns : List Int) (lo hi : Option Int) : List Int := (ns.drop (HT.sIx ns.length 0 lo)).take (HT.sIx ns.length ns.length hi - HT.sIx ns.length 0 lo)
theorem cutV_map (ns : List Int) (lo hi : Option Int) : cutV (ns.map V.int) lo hi = (cutI ns lo hi).map V.int := by
  unfold cutV cutI
  rw [List.length_map, List.map_take, List.map_drop]
theorem cutI_length (ns : List Int) (lo hi : Option Int) : (cutI ns lo hi).length ≤ ns.length := by
  unfold cutI
  rw [List.length_take, List.length_drop]
  omega
end L2
namespace L2
open PySem PySem.Spec PyProof.Rows
section
variable {prog : Program} {w : World} {A : Around} {E : Value → Shared → Prop} {s : Shared}
end
def tListRev (K : PySem.W.Frag) (tl : TE) : TE := fun σ H Q => tl σ H fun x H1 => ∃ a xs, x = .ref a ∧ SqL K H1 a xs ∧ ∀ d, H1 d = none → Q (.ref d) (upd H1 d (.lst xs.reverse))
section
variable {X : Cx}
end
theorem tListRev_ap {K : PySem.W.Frag} {tl : TE} {σ : St} {H : Hp} {Q : VK} : tListRev K tl σ H Q = tl σ H fun x H1 => ∃ a xs, x = .ref a ∧ SqL K H1 a xs ∧ ∀ d, H1 d = none → Q (.ref d) (upd H1 d (.lst xs.reverse)) := rfl
end L2
namespace L2
open PySem PySem.Spec PyProof.Rows
mutual
inductive DD (K : PySem.W.Frag) (H : Hp) : V → PyData → Prop where
  | non : DD K H .non .none
  | bl (b : Bool) : DD K H (.bl b) (.bool b)
  | int (i : Int) : DD K H (.int i) (.int i)
  | str (x : Str) : DD K H (.str x) (.str x)
  | lst {a : Addr} {xs : List V} {ds : List PyData} : SqL K H a xs → DDs K H xs ds → DD K H (.ref a) (.list ds)
  | tup {a : Addr} {xs : List V} {ds : List PyData} : SqT K H a xs → DDs K H xs ds → DD K H (.ref a) (.tuple ds)
inductive DDs (K : PySem.W.Frag) (H : Hp) : List V → List PyData → Prop where
  | nil : DDs K H [] []
  | cons {x : V} {xs : List V} {d : PyData} {ds : List PyData} : DD K H x d → DDs K H xs ds → DDs K H (x :: xs) (d :: ds)
end
section
variable {X : Cx} {pins : List (Addr × Obj)} {σ : St} {H : Hp} {s : Shared}
end
theorem Same.seqT {K : PySem.W.Frag} {H H' : Hp} {a : Addr} {xs : List V} (e : Same H H') (h : SqT K H a xs) : SqT K H' a xs := by
  rcases h with (h | ⟨o, h⟩) | h
  · exact .inl (.inl (e _ _ h))
  · exact .inl (.inr ⟨o, e _ _ h⟩)
  · exact .inr h
mutual
theorem DD.mono {K : PySem.W.Frag} {H H' : Hp} (g : Same H H') : ∀ {v : V} {d : PyData}, DD K H v d → DD K H' v d
  | _, _, .non => .non
  | _, _, .bl b => .bl b
  | _, _, .int i => .int i
  | _, _, .str x => .str x
  | _, _, .lst h hs => .lst (g.seq h) (DDs.mono g hs)
  | _, _, .tup h hs => .tup (Same.seqT g h) (DDs.mono g hs)
theorem DDs.mono {K : PySem.W.Frag} {H H' : Hp} (g : Same H H') : ∀ {vs : List V} {ds : List PyData}, DDs K H vs ds → DDs K H' vs ds
  | _, _, .nil => .nil
  | _, _, .cons h hs => .cons (DD.mono g h) (DDs.mono g hs)
end
section
variable {X : Cx}
end
end L2
namespace L2
open PySem PySem.Spec PyProof.Rows
section
variable {prog : Program} {w : World} {B : Around} {it : Addr} {fp wr : List Addr} {GG : Array GenState → Array GenState → Prop} {n : Nat} {PV : Nat → Value → Prop} {SV : Nat → Shared → Prop} {RR : Result → Shared → Prop}
end
def tMinD (K : PySem.W.Frag) (tl td : TE) : TE := fun σ H Q => tl σ H fun x H1 => td σ H1 fun d H2 => ∃ (a : Addr) (ns : List Int), x = .ref a ∧ SqL K H2 a (ns.map V.int) ∧ (ns = [] → Q d H2) ∧ ∀ M, M ∈ ns → (∀ z ∈ ns, M ≤ z) → Q (.int M) H2
section
variable {X : Cx}
end
theorem tMinD_ap {K : PySem.W.Frag} {tl td : TE} {σ : St} {H : Hp} {Q : VK} : tMinD K tl td σ H Q = tl σ H fun x H1 => td σ H1 fun d H2 => ∃ (a : Addr) (ns : List Int), x = .ref a ∧ SqL K H2 a (ns.map V.int) ∧ (ns = [] → Q d H2) ∧ ∀ M, M ∈ ns → (∀ z ∈ ns, M ≤ z) → Q (.int M) H2 := rfl

theorem maxd_args (a v : Value) : argsOk "max" ⟨[a], [(Str.ofString "default", v)]⟩ := by unfold argsOk; kernel_rfl
section
variable {prog : Program} {w : World} {B : Around} {it : Addr} {fp wr : List Addr} {GG : Array GenState → Array GenState → Prop} {n : Nat} {PV : Nat → Value → Prop} {SV : Nat → Shared → Prop} {RR : Result → Shared → Prop}
theorem maxd_turn {dv : Value} (WS : WalksS prog w B.in1 it fp wr GG n PV SV) (bt : Nat → Nat → Bool) (hcm : CmpOf prog w B.in1 .Gt PV bt) (Z : Addr) (hZ : Z ∉ fp) :
    ∀ (k j : Nat) (s : Shared) (top : Value) (c : Nat), n - (j + 1) = k → j + 1 ≤ n → SV (j + 1) s → PV (argBest bt j) top →
    s.heap.get? Z = some { cls := .type "list", dict := none, data := .seq #[top, top] c, slots := #[] } →
    (∀ v s', PV (argBest bt (n - 1)) v → Moved (Z :: wr) GG s s' → RR (.ok (.ret v)) s') → codeAny (model prog w) B (.builtin "max.loop" ⟨[.ref it, .none, .ref Z], [(Str.ofString "default", dv)]⟩) RR s := by
  have zw : Z ∉ wr := fun z => hZ (WS.sub _ z)
  have sub : ∀ b ∈ wr, b ∈ Z :: wr := fun b z => List.mem_cons_of_mem _ z
  have nm : (toString "max" ++ toString ".loop" : String) = "max.loop" := by decide
  have nz : ∀ {b : Addr}, b ∉ Z :: wr → Z ≠ b := fun z e => z (by rw [e]; exact List.mem_cons_self)
  intro k
  induction k with
  | zero =>
    intro j s top c hk hj sv pt hz fin
    have jn : j + 1 = n := by omega
    refine codeAny_builtin PySem.F.entry_max_loop ?_
    rw [Around.under_plainId PySem.F.plain_max_loop _]
    show wpAny (model prog w) B.in1 (seqItems? (.ref Z) >>= _) _ _ s
    refine wpAny_bind (wpAny_seqItems hz rfl ?_)
    show wpAny (model prog w) B.in1 (tryCatch (pyNext (.ref it)) _ >>= _) _ _ s
    refine wpAny_bind (wpAny_tryCatch (WS.done s _ _ (jn ▸ sv) fun s' mv => ?_))
    have hz' := mv.heap Z _ zw hz
    show wpAny (model prog w) B.in1 (updateSeq Z (fun _ => #[]) >>= _) _ _ _
    refine wpAny_bind ?_
    refine wpAny_updateSeq hz' rfl (wpAny_bind (wpAny_letGo (wpAny_pure ?_)))
    refine fin top _ (by rw [← jn]; exact pt) ?_
    exact (mv.mono sub).then_heap (tk := s'.toks) (Nat.le_refl _) fun b o z e => (Heap.get?_update_other _ _ (nz z)).trans e
  | succ k ih =>
    intro j s top c hk hj sv pt hz fin
    have jn : j + 1 < n := by omega
    refine codeAny_builtin PySem.F.entry_max_loop ?_
    rw [Around.under_plainId PySem.F.plain_max_loop _]
    show wpAny (model prog w) B.in1 (seqItems? (.ref Z) >>= _) _ _ s
    refine wpAny_bind (wpAny_seqItems hz rfl ?_)
    show wpAny (model prog w) B.in1 (tryCatch (pyNext (.ref it)) _ >>= _) _ _ s
    refine wpAny_bind (wpAny_tryCatch (WS.item (j + 1) s _ _ jn sv fun v s' pv sv' mv => ?_))
    have hz' := mv.heap Z _ zw hz
    show wpAny (model prog w) B.in1 (tryCatch (holding [v, v] (richCompare .Gt v top >>= _)) _ >>= _) _ _ _
    refine wpAny_bind (wpAny_tryCatch (wpAny_holding (wpAny_bind (hcm (j + 1) (argBest bt j) v top _ _ _ pv pt ?_))))
    refine wpAny_bind (wpAny_holding (wpAny_truthy_bool ?_))
    refine wpAny_bind (wpAny_letGo (wpAny_pure ?_))
    cases eb : bt (j + 1) (argBest bt j) with
    | true =>
      simp only [if_true]
      refine wpAny_bind ?_
      refine wpAny_updateSeq hz' rfl (wpAny_bind (wpAny_letGo ?_))
      rw [nm]
      refine wpAny_pure ⟨plainId_quiet PySem.F.plain_max_loop _, ih (j + 1) _ v _ (by omega) jn ?_ (by simp only [argBest, eb, if_true]; exact pv) (Heap.get?_update_self _ hz' rfl) fun v2 s2 p2 m2 => ?_⟩
      · exact WS.frame _ s' _ s'.toks sv' (Nat.le_refl _) fun b z o e => (Heap.get?_update_other _ _ (fun q : Z = b => hZ (by rw [q]; exact z))).trans e
      · refine fin v2 s2 p2 (Moved.trans WS.gtrans ?_ m2)
        exact (mv.mono sub).then_heap (Nat.le_refl _) fun b o z e => (Heap.get?_update_other _ _ (nz z)).trans e
    | false =>
      simp only [Bool.false_eq_true, if_false]
      refine wpAny_bind (wpAny_letGo ?_)
      rw [nm]
      refine wpAny_pure ⟨plainId_quiet PySem.F.plain_max_loop _, ih (j + 1) _ top c (by omega) jn sv' (by simp only [argBest, eb, Bool.false_eq_true, if_false]; exact pt) hz' fun v2 s2 p2 m2 => ?_⟩
      exact fin v2 s2 p2 (Moved.trans WS.gtrans (mv.mono sub) m2)
theorem maxd_first {dv : Value} (WS : WalksS prog w B.in1 it fp wr GG n PV SV) (bt : Nat → Nat → Bool) (hcm : CmpOf prog w B.in1 .Gt PV bt) (Z : Addr) (hZ : Z ∉ fp) {s : Shared} {c : Nat} (sv : SV 0 s)
    (hz : s.heap.get? Z = some { cls := .type "list", dict := none, data := .seq #[] c, slots := #[] })
    (none : n = 0 → ∀ s', Moved (Z :: wr) GG s s' → RR (.ok (.ret dv)) s') (fin : 0 < n → ∀ v s', PV (argBest bt (n - 1)) v → Moved (Z :: wr) GG s s' → RR (.ok (.ret v)) s') :
    codeAny (model prog w) B (.builtin "max.loop" ⟨[.ref it, .none, .ref Z], [(Str.ofString "default", dv)]⟩) RR s := by
  have zw : Z ∉ wr := fun z => hZ (WS.sub _ z)
  have sub : ∀ b ∈ wr, b ∈ Z :: wr := fun b z => List.mem_cons_of_mem _ z
  have nm : (toString "max" ++ toString ".loop" : String) = "max.loop" := by decide
  have nz : ∀ {b : Addr}, b ∉ Z :: wr → Z ≠ b := fun z e => z (by rw [e]; exact List.mem_cons_self)
  refine codeAny_builtin PySem.F.entry_max_loop ?_
  rw [Around.under_plainId PySem.F.plain_max_loop _]
  show wpAny (model prog w) B.in1 (seqItems? (.ref Z) >>= _) _ _ s
  refine wpAny_bind (wpAny_seqItems hz rfl ?_)
  show wpAny (model prog w) B.in1 (tryCatch (pyNext (.ref it)) _ >>= _) _ _ s
  rcases Nat.eq_zero_or_pos n with z0 | zp
  · refine wpAny_bind (wpAny_tryCatch (WS.done s _ _ (by rw [z0]; exact sv) fun s' mv => ?_))
    refine wpAny_bind (wpAny_rule ?_)
    exact wpAny_pure (none z0 s' (mv.mono sub))
  · refine wpAny_bind (wpAny_tryCatch (WS.item 0 s _ _ zp sv fun v s' pv sv' mv => ?_))
    have hz' := mv.heap Z _ zw hz
    show wpAny (model prog w) B.in1 (updateSeq Z (fun _ => #[v, v]) >>= _) _ _ _
    refine wpAny_bind ?_
    refine wpAny_updateSeq hz' rfl ?_
    rw [nm]
    refine wpAny_pure ⟨plainId_quiet PySem.F.plain_max_loop _, maxd_turn WS bt hcm Z hZ _ 0 _ v _ rfl zp ?_ pv (Heap.get?_update_self _ hz' rfl) fun v2 s2 p2 m2 => ?_⟩
    · exact WS.frame _ s' _ s'.toks sv' (Nat.le_refl _) fun b z o e => (Heap.get?_update_other _ _ (fun q : Z = b => hZ (by rw [q]; exact z))).trans e
    · refine fin zp v2 s2 p2 (Moved.trans WS.gtrans ?_ m2)
      exact (mv.mono sub).then_heap (Nat.le_refl _) fun b o z e => (Heap.get?_update_other _ _ (nz z)).trans e
theorem maxd_list {s : Shared} {E : Value → Shared → Prop} {Q : Value → Shared → Prop} {l : Addr} {xs : Array (Int × Tok)} {dv : Value} (hh : B.handled = none) (hl : s.heap.IsList l (intItems xs))
    (h0 : xs.size = 0 → ∀ h' tk, (∀ b o, s.heap.get? b = some o → h'.get? b = some o) → Q dv { s with heap := h', toks := tk })
    (h1 : 0 < xs.size → ∀ v h' tk, (intItems xs)[argBest (fun i j => decide (numAt xs i > numAt xs j)) (xs.size - 1)]? = some v → (∀ b o, s.heap.get? b = some o → h'.get? b = some o) → Q v { s with heap := h', toks := tk }) :
    wpAny (model prog w) B (call (.builtin "max") [.ref l] [(Str.ofString "default", dv)]) Q E s := by
  have nm : (toString "max" ++ toString ".loop" : String) = "max.loop" := by decide
  refine PyProof.Rows.kmb_tree PySem.F.kind_max PySem.F.plain_max PySem.F.entry_max (maxd_args _ _) ?_
  show wpAny (model prog w) B.in1 (Builtin.Builtins.bindParams "max" ["key", "default"] 0 ⟨[], [(Str.ofString "default", dv)]⟩ >>= _) _ _ s
  refine wpAny_bind (wpAny_of_eq (show Builtin.Builtins.bindParams "max" ["key", "default"] 0 ⟨[], [(Str.ofString "default", dv)]⟩ = pure [none, some dv] from rfl) ?_)
  refine wpAny_bind (wpAny_pure ?_)
  refine wpAny_bind (iter_intList hl fun s2 e st hfp ne => ?_)
  refine wpAny_bind (wpAny_newObj_type ?_)
  have WS := (Walks.list (prog := prog) (w := w) (A := B.in1) hh s.heap.objs.size l ne (intItems xs)).toS
  have hZ : s2.heap.objs.size ∉ [s.heap.objs.size, l] := fun z => Nat.lt_irrefl _ (hfp _ z)
  have sz : (intItems xs).size = xs.size := by simp [intItems]
  rw [nm]
  subst e
  have keep : ∀ {s3 : Shared} {s4 : Shared} {wr : List Addr} {GG : Array GenState → Array GenState → Prop}, Moved wr GG s3 s4 → True := fun _ => trivial
  refine wpAny_pure ⟨plainId_quiet PySem.F.plain_max_loop _, maxd_first WS _ (CmpOf.ints_gt (numAt xs) fun _ _ => intItems_at) _ hZ (c := 0) (WS.frame 0 _ _ _ st (Nat.le_refl _) fun b _ o e => Heap.get?_push_of_some _ e) (Heap.get?_push_size _ rfl) (fun z s' mv => ?_) (fun z v s' pv mv => ?_)⟩
  · rw [Moved.eq_with mv]
    refine h0 (by omega) s'.heap s'.toks fun b o e => ?_
    have lt := Heap.lt_size e
    refine mv.heap b o (fun q => ?_) (Heap.get?_push_of_some _ (Heap.get?_push_of_some _ e))
    rcases List.mem_cons.mp q with q | q
    · subst q
      exact absurd lt (by show ¬ (s.heap.push _).objs.size < s.heap.objs.size; rw [Heap.size_push]; exact Nat.not_lt.mpr (Nat.le_succ _))
    · exact absurd lt (by rw [List.mem_singleton.mp q]; exact Nat.lt_irrefl _)
  · rw [Moved.eq_with mv]
    rw [sz] at pv z
    refine h1 z v s'.heap s'.toks pv fun b o e => ?_
    have lt := Heap.lt_size e
    refine mv.heap b o (fun q => ?_) (Heap.get?_push_of_some _ (Heap.get?_push_of_some _ e))
    rcases List.mem_cons.mp q with q | q
    · subst q
      exact absurd lt (by show ¬ (s.heap.push _).objs.size < s.heap.objs.size; rw [Heap.size_push]; exact Nat.not_lt.mpr (Nat.le_succ _))
    · exact absurd lt (by rw [List.mem_singleton.mp q]; exact Nat.lt_irrefl _)
end
def tMaxD (K : PySem.W.Frag) (tl td : TE) : TE := fun σ H Q => tl σ H fun x H1 => td σ H1 fun d H2 => ∃ (a : Addr) (ns : List Int), x = .ref a ∧ SqL K H2 a (ns.map V.int) ∧ (ns = [] → Q d H2) ∧ ∀ M, M ∈ ns → (∀ z ∈ ns, z ≤ M) → Q (.int M) H2
section
variable {X : Cx}
theorem pe_maxD {l e : Expr} {tl td : TE} {p pos kp : Pos} (hc : X.calm = true) (hg : Gl X "max") (hm : X.mg "max" = none) (hl : PE X l tl) (he : PE X e td) (hs : starEach [l] X.env = [(false, eval l X.env)] := by rfl) :
    PE X (.Call (.Name "max" p) [l] [⟨some (Str.ofString "default"), e, kp⟩] pos) (tMaxD X.K tl td) := by
  intro pins s σ H Q I h
  refine wpAny_Call_Name_kw (ld_blt I hg hm (u := .builtin "max") (by decide +kernel) ?_)
  refine PyProof.Rows.callWith_kw (env := X.env) (e := l) (rest := []) (kws := [⟨some (Str.ofString "default"), e, kp⟩]) ?_ (he := by rw [hs]; rfl) (hplain := by rw [hs]; rfl)
  refine thn ((pa_cons hl pa_nil hs) pos pins s σ H (fun vs H1 => ∃ x, vs = [x] ∧ td σ H1 fun d H2 => ∃ (a : Addr) (ns : List Int), x = .ref a ∧ SqL X.K H2 a (ns.map V.int) ∧ (ns = [] → Q d H2) ∧ ∀ M, M ∈ ns → (∀ z ∈ ns, z ≤ M) → Q (.int M) H2) I ?_) fun us s1 ⟨vs, H1, I1, r, x, e1, q⟩ => ?_
  · show tl σ H fun x H1 => ∃ y, [x] = [y] ∧ _
    have e : (fun (x : V) (H1 : Hp) => ∃ y, [x] = [y] ∧ td σ H1 fun d H2 => ∃ (a : Addr) (ns : List Int), y = .ref a ∧ SqL X.K H2 a (ns.map V.int) ∧ (ns = [] → Q d H2) ∧ ∀ M, M ∈ ns → (∀ z ∈ ns, z ≤ M) → Q (.int M) H2) =
        fun x H1 => td σ H1 fun d H2 => ∃ (a : Addr) (ns : List Int), x = .ref a ∧ SqL X.K H2 a (ns.map V.int) ∧ (ns = [] → Q d H2) ∧ ∀ M, M ∈ ns → (∀ z ∈ ns, z ≤ M) → Q (.int M) H2 := by
      funext x H1
      refine propext ⟨fun ⟨y, e, q⟩ => ?_, fun q => ⟨x, rfl, q⟩⟩
      cases e
      exact q
    rw [e]
    exact h
  subst e1
  obtain ⟨u, rfl, r1⟩ := Vals.one r
  refine thn ((pk_cons he pk_nil) pos pins s1 σ H1 (fun ws H2 => ∃ d, ws = [d] ∧ ∃ (a : Addr) (ns : List Int), x = .ref a ∧ SqL X.K H2 a (ns.map V.int) ∧ (ns = [] → Q d H2) ∧ ∀ M, M ∈ ns → (∀ z ∈ ns, z ≤ M) → Q (.int M) H2) I1 ?_) fun ws s2 ⟨zs, H2, I2, rz, d, ed, a, ns, ea, hq, q0, q1⟩ => ?_
  · show td σ H1 fun d H2 => ∃ d', [d] = [d'] ∧ _
    have e : (fun (d : V) (H2 : Hp) => ∃ d', [d] = [d'] ∧ ∃ (a : Addr) (ns : List Int), x = .ref a ∧ SqL X.K H2 a (ns.map V.int) ∧ (ns = [] → Q d' H2) ∧ ∀ M, M ∈ ns → (∀ z ∈ ns, z ≤ M) → Q (.int M) H2) =
        fun d H2 => ∃ (a : Addr) (ns : List Int), x = .ref a ∧ SqL X.K H2 a (ns.map V.int) ∧ (ns = [] → Q d H2) ∧ ∀ M, M ∈ ns → (∀ z ∈ ns, z ≤ M) → Q (.int M) H2 := by
      funext x H1
      refine propext ⟨fun ⟨y, e, q⟩ => ?_, fun q => ⟨x, rfl, q⟩⟩
      cases e
      exact q
    rw [e]
    exact q
  subst ed ea
  obtain ⟨dv, rfl, rd⟩ := Vals.one rz
  cases r1
  obtain ⟨its, rv, pl, hz⟩ := I2.list hq
  have hi : IntsAre its ns := intsAre_of rv
  obtain ⟨xs, ex⟩ := hi.allInts.items
  have hns : ns = xs.toList.map (·.1) := by rw [← hi.numsOf, ← nums_intItems, ← ex]
  have hsz : xs.size = ns.length := by rw [hns, List.length_map, Array.length_toList]
  have hl := pl.isList
  rw [ex] at hl
  show wpAny (model X.prog X.w) X.A (call (.builtin "max") [.ref a] [(Str.ofString "default", dv)]) _ _ _
  refine maxd_list (I.ok.hd hc) hl (fun z h' tk k => ?_) (fun z v h' tk hv k => ?_)
  · exact ⟨d, H2, I2.kept k, rd, q0 (List.eq_nil_of_length_eq_zero (by omega))⟩
  · obtain ⟨t, rfl⟩ := intItems_at hv
    obtain ⟨b1, b2⟩ := argBest_gt (numAt xs) (xs.size - 1)
    refine ⟨.int _, H2, I2.kept k, ⟨t, rfl⟩, q1 _ ?_ fun y hy => ?_⟩
    · rw [hns, numAt_eq]; exact getD_mem (by rw [List.length_map, Array.length_toList]; omega)
    · rw [hns] at hy
      obtain ⟨j, hj, rfl⟩ := mem_getD hy
      rw [List.length_map, Array.length_toList] at hj
      rw [← numAt_eq]
      exact b2 j (by omega)
end
theorem tMaxD_ap {K : PySem.W.Frag} {tl td : TE} {σ : St} {H : Hp} {Q : VK} : tMaxD K tl td σ H Q = tl σ H fun x H1 => td σ H1 fun d H2 => ∃ (a : Addr) (ns : List Int), x = .ref a ∧ SqL K H2 a (ns.map V.int) ∧ (ns = [] → Q d H2) ∧ ∀ M, M ∈ ns → (∀ z ∈ ns, z ≤ M) → Q (.int M) H2 := rfl
end L2
namespace L2
open PySem PySem.Spec PyProof.Rows
def CapOk (X : Cx) (scope : Scope) : List Str → List Nat → List (Str × Addr) → Prop
  | [], [], [] => True
  | y :: ys, j :: js, (n, a) :: r => n = y ∧ X.N[j]? = some y ∧ X.env.scope.names.lookup y = some .cell ∧ X.env.cells.lookup y = some a ∧ scope.names.lookup y = some .free ∧ CapOk X scope ys js r
  | _, _, _ => False
theorem CapOk.inn {X : Cx} {scope : Scope} : ∀ {ys : List Str} {js : List Nat} {cl : List (Str × Addr)}, CapOk X scope ys js cl → ∀ y c, cl.lookup y = some c → X.env.cells.lookup y = some c
  | [], [], [], _, y, c, e => nomatch e
  | y :: ys, j :: js, (n, a) :: r, ⟨hn, _, _, h, _, t⟩, z, c, e => by
    subst hn
    rw [List.lookup_cons] at e
    cases q : z == n with
    | true =>
      rw [q] at e
      have : z = n := by simpa using q
      subst this
      exact h.trans e
    | false =>
      rw [q] at e
      exact CapOk.inn t z c e
theorem CapOk.mem {X : Cx} {scope : Scope} : ∀ {ys : List Str} {js : List Nat} {cl : List (Str × Addr)}, CapOk X scope ys js cl → ∀ y ∈ ys, ∃ c, cl.lookup y = some c
  | [], [], [], _, y, h => nomatch h
  | y :: ys, j :: js, (n, a) :: r, ⟨hn, _, _, _, _, t⟩, z, e => by
    subst hn
    rw [List.lookup_cons]
    cases q : z == n with
    | true => exact ⟨_, rfl⟩
    | false =>
      rcases List.mem_cons.mp e with e | e
      · subst e; simp at q
      · exact CapOk.mem t z e
theorem CapOk.len {X : Cx} {scope : Scope} : ∀ {ys : List Str} {js : List Nat} {cl : List (Str × Addr)}, CapOk X scope ys js cl → ys.length = js.length
  | [], [], [], _ => rfl
  | _ :: _, _ :: _, (_, _) :: _, ⟨_, _, _, _, _, t⟩ => congrArg (· + 1) (CapOk.len t)
theorem CapOk.at {X : Cx} {scope : Scope} : ∀ {ys : List Str} {js : List Nat} {cl : List (Str × Addr)}, CapOk X scope ys js cl → ∀ (k : Nat) (y : Str), ys[k]? = some y →
    ∃ j, js[k]? = some j ∧ X.N[j]? = some y ∧ X.env.scope.names.lookup y = some .cell ∧ scope.names.lookup y = some .free
  | [], [], [], _, k, y, e => by simp at e
  | y :: ys, j :: js, (n, a) :: r, ⟨hn, h1, h2, _, h3, t⟩, k, z, e => by
    subst hn
    cases k with
    | zero => cases e; exact ⟨j, rfl, h1, h2, h3⟩
    | succ k => exact CapOk.at t k z e
theorem lookup_mem {α : Type} : ∀ {l : List (Str × α)} {y : Str} {k : α}, l.lookup y = some k → (y, k) ∈ l
  | [], _, _, e => nomatch e
  | (n, q) :: r, y, k, e => by
    rw [List.lookup_cons] at e
    cases hy : y == n with
    | true =>
      rw [hy] at e
      have : y = n := by simpa using hy
      subst this
      cases e
      exact .head _
    | false =>
      rw [hy] at e
      exact .tail _ (lookup_mem e)
theorem relabel_free {env : Env} : ∀ {names : List (Str × NameKind)} {x : Str}, names.lookup x = some .free →
    (names.map fun (n, k) => if (k == NameKind.free && env.scope.kind == .function && env.kindOf n == some .cell) then (n, NameKind.cell) else (n, k)).lookup x = some .cell ∨
    (names.map fun (n, k) => if (k == NameKind.free && env.scope.kind == .function && env.kindOf n == some .cell) then (n, NameKind.cell) else (n, k)).lookup x = some .free
  | [], _, h => nomatch h
  | (n, k) :: r, x, h => by
    rw [List.lookup_cons] at h
    rw [List.map_cons]
    cases hy : x == n with
    | true =>
      rw [hy] at h
      cases h
      dsimp only
      split
      · left; rw [List.lookup_cons, hy]
      · right; rw [List.lookup_cons, hy]
    | false =>
      rw [hy] at h
      have ih := relabel_free (env := env) h
      dsimp only
      split
      · rw [List.lookup_cons, hy]; exact ih
      · rw [List.lookup_cons, hy]; exact ih
theorem CompSc.capt {X : Cx} {own capt : List Str} {scope : Scope} {cl : List (Str × Addr)} {fr : List Nat} (clo : closureFor scope X.env = pure cl) (ok : CapOk X scope capt fr cl) (h1 : ∀ z ∈ scope.names, z.2 = .free → z.1 ∈ capt)
    (h2 : ∀ y ∈ scope.names, y.2 ≠ .cell) (kind : scope.kind = .function) (names : ∀ y ∈ scope.names, y.2 = .local → scope.names.lookup y.1 = some .local) : CompSc X own capt scope cl fr where
  clos := clo
  nocell := h2
  kind := kind
  names := names
  inn := ok.inn
  has := fun y e => by
    refine ok.mem y ?_
    have key : ∃ k, (y, k) ∈ (relabel scope X.env).names ∧ (k = .cell ∨ k = .free) := by
      rcases e with e | e
      · exact ⟨_, lookup_mem e, .inl rfl⟩
      · exact ⟨_, lookup_mem e, .inr rfl⟩
    obtain ⟨k, hm, hk⟩ := key
    unfold relabel at hm
    obtain ⟨⟨n, k0⟩, h3, h4⟩ := List.mem_map.mp hm
    have h5 : n = y ∧ k0 = .free := by
      dsimp only at h4
      split at h4
      · rename_i c
        cases h4
        simp only [Bool.and_eq_true, beq_iff_eq] at c
        exact ⟨rfl, c.1.1⟩
      · cases h4
        rcases hk with rfl | rfl
        · exact absurd rfl (h2 _ h3)
        · exact ⟨rfl, rfl⟩
    obtain ⟨rfl, rfl⟩ := h5
    exact h1 _ h3 rfl
  cap := fun k y e => by
    obtain ⟨j, e1, e2, e3, e4⟩ := ok.at k y e
    obtain ⟨c, hc⟩ := ok.mem y (List.mem_of_getElem? e)
    exact ⟨j, c, e1, e2, e3, hc, relabel_free e4⟩
  len := ok.len
end L2
namespace SM
end SM
namespace SM

def cdiv (n b : Int) : Int := -((-n) / b)
theorem cdiv_spec {n b : Int} (hb : 0 < b) : n ≤ b * cdiv n b ∧ b * cdiv n b < n + b := by
  unfold cdiv
  have h1 := Int.mul_ediv_add_emod (-n) b
  have h2 := Int.emod_nonneg (-n) (show b ≠ 0 by omega)
  have h3 := Int.emod_lt_of_pos (-n) hb
  rw [Int.mul_neg]
  omega
theorem cdiv_le {n b k : Int} (hb : 0 < b) (h : n ≤ b * k) : cdiv n b ≤ k := by
  have := (cdiv_spec (n := n) hb).2
  by_cases c : cdiv n b ≤ k
  · exact c
  · exfalso
    have h1 : k + 1 ≤ cdiv n b := by omega
    have h2 := Int.mul_le_mul_of_nonneg_left h1 (Int.le_of_lt hb)
    rw [Int.mul_add, Int.mul_one] at h2
    omega
structure Lvl (w a lo n : Int) : Prop where
  a0 : 0 ≤ a
  aw : a < w
  n1 : 1 ≤ n
  l1 : 1 ≤ lo
  l2 : lo + n ≤ w
theorem Lvl.down {w a lo n : Int} (L : Lvl w a lo n) (h : 0 < a) (h2 : ¬ a * cdiv lo a ≤ lo + n - 1) : Lvl a (w % a) ((-(lo + n - 1)) % a) n := by
  obtain ⟨a0, aw, n1, l1, l2⟩ := L
  have c1 := cdiv_spec (n := lo) h
  have e1 := Int.emod_nonneg w (show a ≠ 0 by omega)
  have e2 := Int.emod_lt_of_pos w h
  have m1 := Int.emod_nonneg (-(lo + n - 1)) (show a ≠ 0 by omega)
  have m2 := Int.emod_lt_of_pos (-(lo + n - 1)) h
  have m3 := Int.mul_ediv_add_emod (-(lo + n - 1)) a
  generalize hq : (-(lo + n - 1)) / a = q at m3
  generalize (-(lo + n - 1)) % a = r at m1 m2 m3 ⊢
  -- a (cdiv - 1) < lo, lo + n ≤ a cdiv
  have k : -q = cdiv lo a ∨ -q ≠ cdiv lo a := by omega
  -- -q * a = lo + n - 1 + r
  have e : a * (-q) = lo + n - 1 + r := by rw [Int.mul_neg]; omega
  have cq : cdiv lo a ≤ -q := cdiv_le h (by omega)
  have cq2 : -q ≤ cdiv lo a := by
    by_cases z : -q ≤ cdiv lo a
    · exact z
    · exfalso
      have := Int.mul_le_mul_of_nonneg_left (show cdiv lo a + 1 ≤ -q by omega) (Int.le_of_lt h)
      rw [Int.mul_add, Int.mul_one] at this
      omega
  have cq3 : -q = cdiv lo a := by omega
  rw [cq3] at e
  exact ⟨e1, e2, n1, by omega, by omega⟩
end SM
namespace SM
end SM
namespace SM
def NoPart (n k : Int) : Prop := ∀ d, 2 ≤ d → d < k → ¬ d ∣ n
structure IsPart (n d : Int) : Prop where
  two : 2 ≤ d
  dvd : d ∣ n
  least : NoPart n d
theorem isPart_self {n p : Int} (h2 : 2 ≤ n) (h : NoPart n p) (hp : 0 ≤ p) (hs : n < p * p) : IsPart n n := by
  refine ⟨h2, Int.dvd_refl n, fun d d2 dn dd => ?_⟩
  obtain ⟨e, he⟩ := dd
  have d0 : 0 < d := by omega
  have e2 : 2 ≤ e := by
    rcases (show e ≤ 0 ∨ e = 1 ∨ 2 ≤ e by omega) with c | c | c
    · have := Int.mul_le_mul_of_nonneg_left c (Int.le_of_lt d0); rw [Int.mul_zero] at this; omega
    · subst c; omega
    · exact c
  have hd : p ≤ d := by
    by_cases c : p ≤ d
    · exact c
    · exact absurd ⟨e, he⟩ (h d d2 (by omega))
  have hee : p ≤ e := by
    by_cases c : p ≤ e
    · exact c
    · exact absurd ⟨d, by rw [Int.mul_comm]; exact he⟩ (h e e2 (by omega))
  have := Int.mul_le_mul hd hee hp (by omega)
  omega
end SM
namespace SM
end SM
namespace SM
end SM
namespace SM
abbrev T3 := Int × Int × Int
inductive Down (n w0 a0 lo0 : Int) : List T3 → Int → Int → Int → Prop
  | top : Down n w0 a0 lo0 [] w0 a0 lo0
  | go {lv : List T3} {w a lo : Int} : Down n w0 a0 lo0 lv w a lo → 0 < a → ¬ a * cdiv lo a ≤ lo + n - 1 → Down n w0 a0 lo0 (lv ++ [(w, a, lo)]) a (w % a) ((-(lo + n - 1)) % a)
theorem Down.lvl {n w0 a0 lo0 : Int} {lv : List T3} {w a lo : Int} (d : Down n w0 a0 lo0 lv w a lo) (L : Lvl w0 a0 lo0 n) : Lvl w a lo n ∧ w ≤ w0 ∧ ∀ t ∈ lv, 0 < t.2.1 ∧ t.2.1 < t.1 ∧ t.1 ≤ w0 ∧ 1 ≤ t.2.2 ∧ t.2.2 ≤ w0 := by
  induction d with
  | top => exact ⟨L, Int.le_refl _, fun t ht => nomatch ht⟩
  | @go lv w a lo d h h2 ih =>
    obtain ⟨l, b, c⟩ := ih
    refine ⟨l.down h h2, by have := l.aw; omega, fun t ht => ?_⟩
    rcases List.mem_append.mp ht with z | z
    · exact c t z
    · have : t = (w, a, lo) := by simpa using z
      subst this
      have := l.aw; have := l.l1; have := l.l2; have := l.n1
      exact ⟨h, by assumption, b, by assumption, by show lo ≤ w0; omega⟩
theorem half_mod {w a : Int} (h : 0 < a) (hw : a < w) : 2 * (a * (w % a)) ≤ w * a := by
  have e := Int.mul_ediv_add_emod w a
  have r1 := Int.emod_lt_of_pos w h
  have r0 := Int.emod_nonneg w (show a ≠ 0 by omega)
  have q1 : 1 ≤ w / a := (Int.le_ediv_iff_mul_le h).mpr (by omega)
  have := Int.mul_le_mul_of_nonneg_left q1 (Int.le_of_lt h)
  have e2 : 2 * (w % a) ≤ w := by omega
  have := Int.mul_le_mul_of_nonneg_left e2 (Int.le_of_lt h)
  rw [Int.mul_comm w a, ← Int.mul_assoc, Int.mul_comm 2 a, Int.mul_assoc]
  exact this
theorem Down.len {n w0 a0 lo0 : Int} {lv : List T3} {w a lo : Int} (d : Down n w0 a0 lo0 lv w a lo) (L : Lvl w0 a0 lo0 n) : 2 ^ lv.length * (w * a) ≤ w0 * a0 := by
  induction d with
  | top => simp
  | @go lv w a lo d h h2 ih =>
    obtain ⟨l, b, _⟩ := d.lvl L
    have m := half_mod h l.aw
    have p : (0 : Int) ≤ 2 ^ lv.length := Int.pow_nonneg (by decide)
    have := Int.mul_le_mul_of_nonneg_left m p
    rw [List.length_append, List.length_singleton, Int.pow_succ, Int.mul_assoc]
    omega
end SM
namespace L2
open PySem PySem.Spec PyProof.Rows SM
section
variable {K : PySem.W.Frag} {H : Hp} {Q : VK} {a b : Addr} {xs ys : List V} {ws vs : List T3}
end
end L2
namespace L2
open PySem PySem.Spec PyProof.Rows
theorem Inv.turnedLaid {X : Cx} {pins : List (Addr × Obj)} {σ : St} {H : Hp} {s : Shared} {h' : Heap} {t' : Nat} {ch : List Addr} {T : Addr} {o : HO} (I : Inv X pins σ H s) (k : ∀ b u, b ∉ ch → s.heap.get? b = some u → h'.get? b = some u)
    (hc : ∀ b ∈ ch, FpOk X pins H b) (hT : s.heap.objs.size ≤ T) (new : ObjOk X.prog X.w (upd H T o) h' T o) : Inv X pins σ (upd H T o) { s with heap := h', toks := t' } := by
  have nT : H T = none := I.hok.fresh hT
  have nit : ∀ b u, H b = some u → b ∉ ch := fun b u e z => by rw [(hc b z).1] at e; cases e
  have lt : ∀ b u, s.heap.get? b = some u → b ≠ T := fun b u e => Nat.ne_of_lt (Nat.lt_of_lt_of_le (Heap.lt_size e) hT)
  refine I.step (g' := s.gens) (d' := s.drawn) (ch := ch) (fun b hb => ⟨(hc b hb).2.2.2.1, (hc b hb).2.1, (hc b hb).2.2.2.2.1, (hc b hb).2.2.2.2.2⟩) (fun b u _ _ h e _ => k b u h e) (fun b u _ _ h e _ => ⟨u.slots, k b u h e⟩)
    (fun b u _ e n => by rw [upd_ne (lt b u e)]; exact n) (fun b u h e => ⟨u, k b u h e⟩) (fun b xs e => by rw [upd_ne (ne_of_none e nT)]; exact e) (fun b u v e => by rw [upd_ne (ne_of_none e nT)]; exact e)
    (fun b ps e => ⟨#[], by rw [upd_ne (ne_of_none e nT), e]; simp⟩) (fun m hm => ?_) (fun b u e => ?_) I.bare
  · obtain ⟨u, es, ep, ho, r⟩ := hm
    exact ⟨u, es, ep, k _ u (fun z => (hc _ z).2.1 rfl) ho, r⟩
  · by_cases hb : b = T
    · subst hb
      rw [upd_same] at e
      cases e
      exact new
    · rw [upd_ne hb] at e
      refine (I.hok b u e).stay (fun c v hcc q => k c v ?_ q) (fun c q => by rw [upd_ne (ne_of_none q nT)]; exact q) fun c xs q => by rw [upd_ne (ne_of_none q nT)]; exact q
      rcases hcc with z | z
      · rw [z]; exact nit b u e
      · exact nit c _ z
theorem Inv.turnedL {X : Cx} {pins : List (Addr × Obj)} {σ : St} {H : Hp} {s : Shared} {h' : Heap} {t' : Nat} {ch : List Addr} (I : Inv X pins σ H s) (k : ∀ b u, b ∉ ch → s.heap.get? b = some u → h'.get? b = some u)
    (hc : ∀ b ∈ ch, FpOk X pins H b) : Inv X pins σ H { s with heap := h', toks := t' } := by
  have nit : ∀ b u, H b = some u → b ∉ ch := fun b u e z => by rw [(hc b z).1] at e; cases e
  refine I.step (g' := s.gens) (d' := s.drawn) (ch := ch) (fun b hb => ⟨(hc b hb).2.2.2.1, (hc b hb).2.1, (hc b hb).2.2.2.2.1, (hc b hb).2.2.2.2.2⟩) (fun b u _ _ h e _ => k b u h e) (fun b u _ _ h e _ => ⟨u.slots, k b u h e⟩)
    (fun _ _ _ _ n => n) (fun b u h e => ⟨u, k b u h e⟩) (fun _ _ e => e) (fun _ _ _ e => e) (fun b ps e => ⟨#[], by rw [e]; simp⟩) (fun m hm => ?_) (fun b u e => ?_) I.bare
  · obtain ⟨u, es, ep, ho, r⟩ := hm
    exact ⟨u, es, ep, k _ u (fun z => (hc _ z).2.1 rfl) ho, r⟩
  · refine (I.hok b u e).stay (fun c v hcc q => k c v ?_ q) (fun _ q => q) fun _ _ q => q
    rcases hcc with z | z
    · rw [z]; exact nit b u e
    · exact nit c _ z
def Itp (n : Nat) (ok : Hp → Prop) (f : Nat → Hp → V → V → Prop) : It :=
  ⟨fun i H => i < n ∧ ok H, fun i H x H' => ∃ T u v, H T = none ∧ x = .ref T ∧ H' = upd H T (.tup [u, v]) ∧ f i H u v, fun i H => i = n ∧ ok H⟩
def okZ (K : PySem.W.Frag) (a b : Addr) (n : Nat) (H : Hp) : Prop := ∃ xs ys, SqL K H a xs ∧ SqL K H b ys ∧ min xs.length ys.length = n
def Itz (K : PySem.W.Frag) (a b : Addr) (n : Nat) : It := Itp n (okZ K a b n) fun i H u v => (∀ xs, SqL K H a xs → xs[i]? = some u) ∧ ∀ ys, SqL K H b ys → ys[i]? = some v
def tnZ (z TI TO i1 i2 l1 l2 : Addr) (i : Nat) (h : Heap) : Prop := IsZip h z TI TO .none ∧ IsPair h TI (.ref i1) (.ref i2) ∧ (∃ a b, IsPair h TO a b) ∧ h.IsListIter i1 l1 i ∧ h.IsListIter i2 l2 i
theorem turn_zip {P : Program} {w : World} {K : PySem.W.Frag} {es : List Expr} {k : Nat} {pos : Pos} {z TI TO i1 i2 l1 l2 : Addr} {n : Nat} (D : ZipApart z TI TO i1 i2 l1 l2) :
    Turn P w K (.Tuple es k pos) (Itz K l1 l2 n) [z, TI, TO, i1, i2] z (tnZ z TI TO i1 i2 l1 l2) where
  mem := by simp
  obj := fun i h st b hb => by
    obtain ⟨h1, h2, ⟨x, y, h3⟩, ⟨o4, h4, _, d4⟩, ⟨o5, h5, _, d5⟩⟩ := st
    simp only [List.mem_cons, List.not_mem_nil, or_false] at hb
    rcases hb with rfl | rfl | rfl | rfl | rfl
    · exact ⟨_, h1, fun v q => nomatch q⟩
    · exact ⟨_, h2, fun v q => nomatch q⟩
    · exact ⟨_, h3, fun v q => nomatch q⟩
    · exact ⟨_, h4, fun v q => by rw [d4] at q; cases q⟩
    · exact ⟨_, h5, fun v q => by rw [d5] at q; cases q⟩
  keep := fun i h h' st kk => by
    obtain ⟨h1, h2, ⟨x, y, h3⟩, h4, h5⟩ := st
    exact ⟨kk _ (by simp) _ h1, kk _ (by simp) _ h2, ⟨x, y, kk _ (by simp) _ h3⟩, h4.at fun o e => kk _ (by simp) o e, h5.at fun o e => kk _ (by simp) o e⟩
  item := by
    intro X hP hw hK hc i pins s σ H E I hf st hg
    subst hP hw hK
    obtain ⟨hi, xs, ys, ha, hb, hn⟩ := hg
    obtain ⟨us, ru, pu, _⟩ := I.list ha
    obtain ⟨vs, rv, pv, _⟩ := I.list hb
    have lu := ru.length
    have lv := rv.length
    obtain ⟨h1, h2, h3, h4, h5⟩ := st
    have WT := WalksT.zip2 (prog := X.prog) (w := X.w) (A := X.A) (I.ok.hd hc) z TI TO i1 i2 l1 l2 D us.toArray vs.toArray
    have fpw : ∀ b ∈ [z, TO, i1, i2], b ∈ [z, TI, TO, i1, i2] := fun b hb => by
      simp only [List.mem_cons, List.not_mem_nil, or_false] at hb ⊢
      rcases hb with rfl | rfl | rfl | rfl <;> simp
    refine WT.item i s _ _ (by simp only [List.size_toArray]; omega) ⟨h1, h2, h3, h4, h5, pu.isList, pv.isList⟩ fun T vals h' tk hPt hT tup mid kk => ?_
    obtain ⟨x, y, ex, ey, rfl⟩ := hPt
    have ex' : us[i]? = some x := by simpa using ex
    have ey' : vs[i]? = some y := by simpa using ey
    have hxl : i < xs.length := by omega
    have hyl : i < ys.length := by omega
    have gx : xs[i]? = some xs[i] := List.getElem?_eq_getElem hxl
    have gy : ys[i]? = some ys[i] := List.getElem?_eq_getElem hyl
    obtain ⟨x2, q1, rx⟩ := ru.get gx
    obtain ⟨y2, q2, ry⟩ := rv.get gy
    rw [ex'] at q1
    rw [ey'] at q2
    cases q1
    cases q2
    refine ⟨.ref T, rfl, WT.go es k pos i T { s with heap := h', toks := tk } _ _ mid fun h2' st2 kk2 => ?_⟩
    have Tw := WT.apart i T h' mid
    have nT : H T = none := I.hok.fresh hT
    obtain ⟨oT, hoT, cT, nT2, dT⟩ := tup
    have tup2 : IsTup h2' T #[x, y] := ⟨oT, kk2 T oT Tw hoT, cT, nT2, dT⟩
    have I2 : Inv X pins σ (upd H T (.tup [xs[i], ys[i]])) { s with heap := h2', toks := tk } :=
      I.turnedLaid (fun b u hb e => kk2 b u hb (kk b u hb e)) (fun b hb => hf b (fpw b hb)) hT ⟨show 2 ≤ sizeLine by decide, [x, y], .cons rx (.cons ry .nil), tup2⟩
    refine ⟨.ref T, _, I2, rfl, ⟨T, xs[i], ys[i], nT, rfl, rfl, fun zs hz => by rw [I.list_inj hz ha]; exact gx, fun zs hz => by rw [I.list_inj hz hb]; exact gy⟩, ?_, fun b hb => ?_⟩
    · obtain ⟨a1, a2, a3, a4, a5, _⟩ := st2
      exact ⟨a1, a2, a3, a4, a5⟩
    · have : b ≠ T := by
        rintro rfl
        have hb2 := (hf b hb).1
        simp only [List.mem_cons, List.not_mem_nil, or_false] at hb
        have lt : b < s.heap.objs.size := by
          obtain ⟨xx, yy, h3⟩ := h3
          obtain ⟨o4, h4, _⟩ := h4
          obtain ⟨o5, h5, _⟩ := h5
          rcases hb with rfl | rfl | rfl | rfl | rfl
          · exact Heap.lt_size h1
          · exact Heap.lt_size h2
          · exact Heap.lt_size h3
          · exact Heap.lt_size h4
          · exact Heap.lt_size h5
        exact absurd (Nat.lt_of_lt_of_le lt hT) (Nat.lt_irrefl _)
      rw [upd_ne this]
      exact (hf b hb).1
  done := by
    intro X hP hw hK hc i pins s σ H E I hf st hg
    subst hP hw hK
    obtain ⟨hi, xs, ys, ha, hb, hn⟩ := hg
    obtain ⟨us, ru, pu, _⟩ := I.list ha
    obtain ⟨vs, rv, pv, _⟩ := I.list hb
    have lu := ru.length
    have lv := rv.length
    obtain ⟨h1, h2, h3, h4, h5⟩ := st
    have WT := WalksT.zip2 (prog := X.prog) (w := X.w) (A := X.A) (I.ok.hd hc) z TI TO i1 i2 l1 l2 D us.toArray vs.toArray
    have fpw : ∀ b ∈ [z, TO, i1, i2], b ∈ [z, TI, TO, i1, i2] := fun b hb => by
      simp only [List.mem_cons, List.not_mem_nil, or_false] at hb ⊢
      rcases hb with rfl | rfl | rfl | rfl <;> simp
    have ei : min us.toArray.size vs.toArray.size = i := by simp only [List.size_toArray]; omega
    refine WT.done s _ _ (by rw [ei]; exact ⟨h1, h2, h3, h4, h5, pu.isList, pv.isList⟩) fun h' tk kk => ⟨rfl, I.turnedL kk fun b hb => hf b (fpw b hb)⟩
  self := fun A i s Q E st h => wpAny_pyIter_zip st.1 h
def iZip (K : PySem.W.Frag) (ta tb : TE) : TI := fun σ H R => ta σ H fun x H1 => tb σ H1 fun y H2 => ∃ a b xs ys, x = .ref a ∧ y = .ref b ∧ SqL K H2 a xs ∧ SqL K H2 b ys ∧ R (Itz K a b (min xs.length ys.length)) H2
section
variable {X : Cx} {es : List Expr} {k : Nat} {tpos : Pos}
theorem pi_zip {l m : Expr} {tl tm : TE} {p pos : Pos} (hg : Gl X "zip") (hm : X.mg "zip" = none) (hl : PE X l tl) (hq : PE X m tm) (hs : starEach [l, m] X.env = [(false, eval l X.env), (false, eval m X.env)] := by rfl) (hs2 : starEach [m] X.env = [(false, eval m X.env)] := by rfl) :
    PI X (.Tuple es k tpos) (.Call (.Name "zip" p) [l, m] [] pos) (iZip X.K tl tm) := by
  intro pins s σ H R I h
  refine Call_ (ld_blt I hg hm PyProof.Rows.boot_zip (PyProof.Rows.callWith_type1 ?_ (by rw [hs, hs2]) (by rw [hs2]; rfl)))
  refine thn ((pa_cons hl (pa_cons hq pa_nil hs2) (by rw [hs, hs2])) pos pins s σ H (fun vs H2 => ∃ (x y : V), vs = [x, y] ∧ ∃ a b xs ys, x = .ref a ∧ y = .ref b ∧ SqL X.K H2 a xs ∧ SqL X.K H2 b ys ∧ R (Itz X.K a b (min xs.length ys.length)) H2) I ?_) fun us s1 ⟨vs, H1, I1, r, x, y, e, a, b, xs, ys, ea, eb, ha, hb, q⟩ => ?_
  · show tl σ H fun x H1 => tm σ H1 fun y H2 => ∃ x' y', [x, y] = [x', y'] ∧ _
    have e : (fun (x : V) (H1 : Hp) => tm σ H1 fun y H2 => ∃ x' y', [x, y] = [x', y'] ∧ ∃ a b xs ys, x' = V.ref a ∧ y' = .ref b ∧ SqL X.K H2 a xs ∧ SqL X.K H2 b ys ∧ R (Itz X.K a b (min xs.length ys.length)) H2) =
        fun (x : V) (H1 : Hp) => tm σ H1 fun y H2 => ∃ a b xs ys, x = V.ref a ∧ y = .ref b ∧ SqL X.K H2 a xs ∧ SqL X.K H2 b ys ∧ R (Itz X.K a b (min xs.length ys.length)) H2 := by
      funext x H1
      congr 1
      funext y H2
      refine propext ⟨fun ⟨x', y', e, q⟩ => ?_, fun q => ⟨x, y, rfl, q⟩⟩
      cases e
      exact q
    rw [e]
    exact h
  subst e ea eb
  obtain ⟨u, v, rfl, r1, r2⟩ := Vals.two r
  cases r1
  cases r2
  obtain ⟨us, ru, pu, _⟩ := I1.list ha
  obtain ⟨vs, rv, pv, _⟩ := I1.list hb
  have la : a < s1.heap.objs.size := by obtain ⟨o, e, _⟩ := pu.isList; exact Heap.lt_size e
  have lb : b < s1.heap.objs.size := by obtain ⟨o, e, _⟩ := pv.isList; exact Heap.lt_size e
  refine call_zip_2 pu.isList pv.isList fun h' hz hTI hTO hi1 hi2 hsz hk => ?_
  refine wpAny_pyIter_zip hz ?_
  have I2 : Inv X pins σ H1 { s1 with heap := h' } := I1.kept (t' := s1.toks) hk
  refine ⟨_, _, _, _, H1, rfl, I2, turn_zip (PySem.W.ktu_apart _ _ _ la lb), ⟨hz, hTI, ⟨_, _, hTO⟩, hi1, hi2⟩, fun c hc => ?_, q⟩
  have hc' : s1.heap.objs.size ≤ c := by
    simp only [List.mem_cons, List.not_mem_nil, or_false] at hc
    rcases hc with rfl | rfl | rfl | rfl | rfl <;> first | exact Nat.le_refl _ | exact Nat.le_add_right _ _
  exact I1.fpOk hc' (I1.hok.fresh hc')
end
theorem iZip_ap {K : PySem.W.Frag} {ta tb : TE} {σ : St} {H : Hp} {R : It → Hp → Prop} : iZip K ta tb σ H R = ta σ H fun x H1 => tb σ H1 fun y H2 => ∃ a b xs ys, x = .ref a ∧ y = .ref b ∧ SqL K H2 a xs ∧ SqL K H2 b ys ∧ R (Itz K a b (min xs.length ys.length)) H2 := rfl
def okE (K : PySem.W.Frag) (a : Addr) (n : Nat) (H : Hp) : Prop := ∃ xs, SqL K H a xs ∧ xs.length = n
def Ite (K : PySem.W.Frag) (a : Addr) (n : Nat) : It := Itp n (okE K a n) fun i H u v => u = .int i ∧ ∀ xs, SqL K H a xs → xs[i]? = some v
def iEnum (K : PySem.W.Frag) (ta : TE) : TI := fun σ H R => ta σ H fun x H1 => ∃ a xs, x = .ref a ∧ SqL K H1 a xs ∧ R (Ite K a xs.length) H1
section
variable {X : Cx} {es : List Expr} {k : Nat} {tpos : Pos}
end
theorem iEnum_ap {K : PySem.W.Frag} {ta : TE} {σ : St} {H : Hp} {R : It → Hp → Prop} : iEnum K ta σ H R = ta σ H fun x H1 => ∃ a xs, x = .ref a ∧ SqL K H1 a xs ∧ R (Ite K a xs.length) H1 := rfl
end L2
namespace L2
open PySem PySem.Spec PyProof.Rows
def Its (lo c : Int) (n : Nat) : It := ⟨fun i _ => i < n, fun i H x H' => H' = H ∧ x = .int (lo + i * c), fun i _ => n ≤ i⟩
section
variable {X : Cx} {tg : Expr}
def iRngA (ta : TA) : TI := fun σ H R => ta σ H fun vs H1 => ∃ i j : Int, vs = [.int i, .int j] ∧ R (Its i 1 (j - i).toNat) H1
def iRng3 (ta : TA) : TI := fun σ H R => ta σ H fun vs H1 => ∃ (i j c : Int) (n : Nat), vs = [.int i, .int j, .int c] ∧ 0 < c ∧ c < 1000000 ∧ (n : Int) = Builtin.Range.rangeSize i j c ∧ R (Its i c n) H1
end
section
variable {D : Ends} {σ : St} {H : Hp} {Q : VK}
theorem iRngA_ap {ta : TA} {R : It → Hp → Prop} : iRngA ta σ H R = ta σ H fun vs H1 => ∃ i j : Int, vs = [.int i, .int j] ∧ R (Its i 1 (j - i).toNat) H1 := rfl
theorem iRng3_ap {ta : TA} {R : It → Hp → Prop} : iRng3 ta σ H R = ta σ H fun vs H1 => ∃ (i j c : Int) (n : Nat), vs = [.int i, .int j, .int c] ∧ 0 < c ∧ c < 1000000 ∧ (n : Int) = Builtin.Range.rangeSize i j c ∧ R (Its i c n) H1 := rfl
end
end L2
namespace L2
open PySem PySem.Spec PyProof.Rows
def CI (mg : Str → Option Value) (x : Str) (n : Int) : Prop := ∃ t, mg x = some (.int n t)
theorem ci_mk {K : PySem.W.Frag} {h : Heap} {mg : Str → Option Value} {x : Str} {n : Int} {t : Tok} (X : K.In h) (G : h.Ns mainGlobals mg) (a : PySem.W.nsIn K mainGlobals x = some (some (.int n t))) : CI mg x n := ⟨t, PySem.W.mg_of X G a⟩
theorem pe_ci {X : Cx} {x : Str} {n : Int} {pos : Pos} (hg : Gl X x) (h : CI X.mg x n) (hd : (x == ("__debug__" : Str)) = false := by decide) : PE X (.Name x pos) (tC (.int n)) := by
  obtain ⟨t, e⟩ := h
  exact pe_glob hg e ⟨t, rfl⟩ hd
end L2
namespace SM
end SM
namespace L2
open PySem PySem.Spec PyProof.Rows SM
inductive Pap where
  | inn (k : Int)
  | par (b : Int) (ps : List Pap)
mutual
def Pap.dep : Pap → Nat
  | .inn _ => 0
  | .par _ ps => Pap.deps ps + 1
def Pap.deps : List Pap → Nat
  | [] => 0
  | p :: ps => max p.dep (Pap.deps ps)
end
theorem Pap.dep_mem : ∀ {ps : List Pap} {p : Pap}, p ∈ ps → p.dep ≤ Pap.deps ps
  | q :: ps, p, h => by
    simp only [Pap.deps]
    rcases List.mem_cons.mp h with e | e
    · rw [e]; omega
    · have := Pap.dep_mem e; omega
-- a paper that lies in the heap; N: what is known of the places of its lists
mutual
inductive PapIn (K : PySem.W.Frag) (N : Addr → Prop) (H : Hp) : V → Pap → Prop where
  | inn {a : Addr} {k : Int} : H a = some (.tup [.str "in", .int k]) → PapIn K N H (.ref a) (.inn k)
  | par {a l : Addr} {b : Int} {xs : List V} {ps : List Pap} : H a = some (.tup [.str "parted", .int b, .ref l]) → H l = some (.lst xs) → N l → xs.length < 2 ^ 60 → PapsIn K N H xs ps → PapIn K N H (.ref a) (.par b ps)
inductive PapsIn (K : PySem.W.Frag) (N : Addr → Prop) (H : Hp) : List V → List Pap → Prop where
  | nil : PapsIn K N H [] []
  | cons {x : V} {xs : List V} {p : Pap} {ps : List Pap} : PapIn K N H x p → PapsIn K N H xs ps → PapsIn K N H (x :: xs) (p :: ps)
end
section
variable {K : PySem.W.Frag} {N N' : Addr → Prop} {H H' : Hp}
mutual
theorem PapIn.mono (g : Same H H') : ∀ {v : V} {p : Pap}, PapIn K N H v p → PapIn K N H' v p
  | _, _, .inn h => .inn (g _ _ h)
  | _, _, .par h hl n hz hs => .par (g _ _ h) (g _ _ hl) n hz (PapsIn.mono g hs)
theorem PapsIn.mono (g : Same H H') : ∀ {vs : List V} {ps : List Pap}, PapsIn K N H vs ps → PapsIn K N H' vs ps
  | _, _, .nil => .nil
  | _, _, .cons h hs => .cons (PapIn.mono g h) (PapsIn.mono g hs)
end
mutual
theorem PapIn.imp (f : ∀ l, N l → N' l) : ∀ {v : V} {p : Pap}, PapIn K N H v p → PapIn K N' H v p
  | _, _, .inn h => .inn h
  | _, _, .par h hl n hz hs => .par h hl (f _ n) hz (PapsIn.imp f hs)
theorem PapsIn.imp (f : ∀ l, N l → N' l) : ∀ {vs : List V} {ps : List Pap}, PapsIn K N H vs ps → PapsIn K N' H vs ps
  | _, _, .nil => .nil
  | _, _, .cons h hs => .cons (PapIn.imp f h) (PapsIn.imp f hs)
end
theorem upd_tup {D b : Addr} {zs ys : List V} {o : HO} (hD : H D = some (.lst zs)) (h : H b = some (.tup ys)) : upd H D o b = some (.tup ys) := by
  rw [upd_ne (ne_of h hD (by intro z; cases z))]
  exact h
mutual
theorem PapIn.write {D : Addr} {zs : List V} {o : HO} (hD : H D = some (.lst zs)) (f : ∀ l, N l → l ≠ D) : ∀ {v : V} {p : Pap}, PapIn K N H v p → PapIn K N (upd H D o) v p
  | _, _, .inn h => .inn (upd_tup hD h)
  | _, _, .par h hl n hz hs => .par (upd_tup hD h) (by rw [upd_ne (f _ n)]; exact hl) n hz (PapsIn.write hD f hs)
theorem PapsIn.write {D : Addr} {zs : List V} {o : HO} (hD : H D = some (.lst zs)) (f : ∀ l, N l → l ≠ D) : ∀ {vs : List V} {ps : List Pap}, PapsIn K N H vs ps → PapsIn K N (upd H D o) vs ps
  | _, _, .nil => .nil
  | _, _, .cons h hs => .cons (PapIn.write hD f h) (PapsIn.write hD f hs)
end
theorem PapsIn.len : ∀ {xs : List V} {ps : List Pap}, PapsIn K N H xs ps → xs.length = ps.length
  | _, _, .nil => rfl
  | _, _, .cons _ h => by simp [h.len]
theorem PapsIn.at : ∀ {xs : List V} {ps : List Pap}, PapsIn K N H xs ps → ∀ {i : Nat} {x : V}, xs[i]? = some x → ∃ p, ps[i]? = some p ∧ PapIn K N H x p
  | _, _, .nil, i, x, e => by simp at e
  | _, _, .cons h hs, 0, x, e => by cases e; exact ⟨_, rfl, h⟩
  | _, _, .cons h hs, i + 1, x, e => by simpa using hs.at (i := i) (by simpa using e)
theorem PapsIn.append : ∀ {xs ys : List V} {ps qs : List Pap}, PapsIn K N H xs ps → PapsIn K N H ys qs → PapsIn K N H (xs ++ ys) (ps ++ qs)
  | _, _, _, _, .nil, k => k
  | _, _, _, _, .cons h hs, k => .cons h (hs.append k)
theorem PapsIn.snoc {xs : List V} {ps : List Pap} {x : V} {p : Pap} (h : PapsIn K N H xs ps) (k : PapIn K N H x p) : PapsIn K N H (xs ++ [x]) (ps ++ [p]) := h.append (.cons k .nil)
end
abbrev anyL : Addr → Prop := fun _ => True
theorem PapIn.any {K : PySem.W.Frag} {N : Addr → Prop} {H : Hp} {v : V} {p : Pap} (h : PapIn K N H v p) : PapIn K anyL H v p := h.imp fun _ _ => trivial
theorem Pap.deps_le {n : Nat} : ∀ {ps : List Pap}, (∀ p ∈ ps, p.dep ≤ n) → Pap.deps ps ≤ n
  | [], _ => Nat.zero_le _
  | p :: ps, h => by
    simp only [Pap.deps]
    have h1 := h p (by simp)
    have h2 := Pap.deps_le fun q hq => h q (List.mem_cons_of_mem _ hq)
    omega
mutual
def Pap.kn : Pap → Nat
  | .inn _ => 1
  | .par _ ps => Pap.kns ps + 1
def Pap.kns : List Pap → Nat
  | [] => 0
  | p :: ps => p.kn + Pap.kns ps
end
mutual
def Pap.nm : Pap → List Int
  | .inn k => [k]
  | .par _ ps => Pap.nms ps
def Pap.nms : List Pap → List Int
  | [] => []
  | p :: ps => p.nm ++ Pap.nms ps
end
theorem Pap.kn_pos (p : Pap) : 1 ≤ p.kn := by cases p <;> simp [Pap.kn]
theorem Pap.kn_mem : ∀ {ps : List Pap} {p : Pap}, p ∈ ps → p.kn ≤ Pap.kns ps
  | q :: ps, p, h => by
    simp only [Pap.kns]
    rcases List.mem_cons.mp h with e | e
    · rw [e]; omega
    · have := Pap.kn_mem e; omega
theorem Pap.kns_len : ∀ ps : List Pap, ps.length ≤ Pap.kns ps
  | [] => Nat.zero_le _
  | p :: ps => by
    have := Pap.kns_len ps
    have := p.kn_pos
    simp only [Pap.kns, List.length_cons]
    omega
theorem Pap.deps_max {ps : List Pap} {M : Int} (hM : M ∈ ps.map fun p => (p.dep : Int)) (hz : ∀ z ∈ ps.map (fun p => (p.dep : Int)), z ≤ M) : M = (Pap.deps ps : Int) := by
  obtain ⟨p, hp, rfl⟩ := List.mem_map.mp hM
  have h1 := Pap.dep_mem hp
  have h2 : Pap.deps ps ≤ p.dep := Pap.deps_le fun q hq => by
    have := hz _ (List.mem_map_of_mem (f := fun p : Pap => (p.dep : Int)) hq)
    omega
  omega
section
variable {K : PySem.W.Frag} {N : Addr → Prop} {H H' : Hp} {X : Addr} {zs : List V}
end
end L2
namespace L2
open PySem PySem.Spec PyProof.Rows
section
variable {X : Cx}
theorem call_allT (hc : X.calm = true) : CallR X (.builtin "all") (fun vs H Q => ∃ (a : Addr) (ys : List V), vs = [.ref a] ∧ SqL X.K H a ys ∧ (∀ y ∈ ys, y = .bl true) ∧ Q (.bl true) H) := by
  intro pins s σ H xs us Q I r h
  obtain ⟨a, ys, rfl, hq, hb, q⟩ := h
  obtain ⟨u, rfl, r1⟩ := Vals.one r
  cases r1
  obtain ⟨its, rv, pl, hz⟩ := I.list hq
  have hl := pl.isList
  have la : a < s.heap.objs.size := by obtain ⟨o, e, _⟩ := hl; exact Heap.lt_size e
  have ne : a ≠ s.heap.objs.size := Nat.ne_of_lt la
  refine call_all_walkS (wpAny_pyIter_list hl ?_)
  have WS := (Walks.list (prog := X.prog) (w := X.w) (A := X.A.in1) (I.ok.hd hc) s.heap.objs.size a ne its.toArray).toS
  refine ⟨_, _, _, _, _, _, _, fun _ => true, rfl, WS, ⟨⟨_, Heap.get?_push_size _ rfl, rfl, rfl⟩, hl.push _⟩, fun i v s' Q' E' hv hq' => ?_, fun s' mv => ?_⟩
  · have hv' : its[i]? = some v := by simpa using hv
    have hi : i < ys.length := by rw [rv.length]; exact (List.getElem?_eq_some_iff.mp hv').1
    obtain ⟨u, e1, r2⟩ := rv.get (List.getElem?_eq_getElem hi)
    rw [hv'] at e1
    cases e1
    rw [hb _ (List.getElem_mem hi)] at r2
    cases r2
    exact wpAny_truthy_bool hq'
  · have e : (List.range its.toArray.size).all (fun _ => true) = true := by simp
    rw [e, Moved.eq_with mv]
    refine ⟨.bl true, H, I.kept fun b o e => mv.heap b o (fun z => ?_) (Heap.get?_push_of_some _ e), rfl, q⟩
    exact absurd (Heap.lt_size e) (by rw [List.mem_singleton.mp z]; exact Nat.lt_irrefl _)
end
theorem tBM0_ap {K : PySem.W.Frag} {T : String} {r : V → List V → Hp → VK → Prop} {to : TE} {σ : St} {H : Hp} {Q : VK} : tBM0 K T r to σ H Q = to σ H fun x H1 => tyV K T x H1 ∧ r x [] H1 Q := rfl
end L2
namespace L2
open PySem PySem.Spec PyProof.Rows SM
section
variable {K : PySem.W.Frag} {N : Addr → Prop} {H H' : Hp} {X Y : Addr} {xs ys : List V}
end
end L2
namespace L2
open PySem PySem.Spec PyProof.Rows SM
section
variable {K : PySem.W.Frag} {N : Addr → Prop} {H : Hp}
theorem PapsIn.take : ∀ {xs : List V} {ps : List Pap} (n : Nat), PapsIn K N H xs ps → PapsIn K N H (xs.take n) (ps.take n)
  | _, _, 0, h => by simp; exact .nil
  | _, _, n + 1, .nil => by simp; exact .nil
  | _, _, n + 1, .cons h hs => by simp only [List.take_succ_cons]; exact .cons h (hs.take n)
theorem PapsIn.drop : ∀ {xs : List V} {ps : List Pap} (n : Nat), PapsIn K N H xs ps → PapsIn K N H (xs.drop n) (ps.drop n)
  | _, _, 0, h => h
  | _, _, n + 1, .nil => by simp; exact .nil
  | _, _, n + 1, .cons h hs => by simp only [List.drop_succ_cons]; exact hs.drop n
end
mutual
def Pap.pd : Pap → PyData
  | .inn k => .tuple [.str "in", .int k]
  | .par b ps => .tuple [.str "parted", .int b, .list (Pap.pds ps)]
def Pap.pds : List Pap → List PyData
  | [] => []
  | p :: ps => p.pd :: Pap.pds ps
end
mutual
theorem PapIn.dd {K : PySem.W.Frag} {N : Addr → Prop} {H : Hp} : ∀ {v : V} {p : Pap}, PapIn K N H v p → DD K H v p.pd
  | _, _, .inn h => by
    simp only [Pap.pd]
    exact .tup (SqT.of h) (.cons (.str _) (.cons (.int _) .nil))
  | _, _, .par h hl _ _ hs => by
    simp only [Pap.pd]
    exact .tup (SqT.of h) (.cons (.str _) (.cons (.int _) (.cons (.lst (SqL.of hl) (PapsIn.dds hs)) .nil)))
theorem PapsIn.dds {K : PySem.W.Frag} {N : Addr → Prop} {H : Hp} : ∀ {vs : List V} {ps : List Pap}, PapsIn K N H vs ps → DDs K H vs (Pap.pds ps)
  | _, _, .nil => by simp only [Pap.pds]; exact .nil
  | _, _, .cons h hs => by simp only [Pap.pds]; exact .cons (PapIn.dd h) (PapsIn.dds hs)
end
end L2
namespace L2
open PySem PySem.Spec PyProof.Rows

theorem ObjOk.there {P : Program} {w : World} {H : Hp} {h : Heap} {a : Addr} : ∀ {o : HO}, ObjOk P w H h a o → ∃ u, h.get? a = some u := fun {o} x => by
  induction o with
  | lst xs => obtain ⟨_, _, _, _, e⟩ := x; exact ⟨_, e⟩
  | tup xs => obtain ⟨_, _, _, p⟩ := x; obtain ⟨u, hu, _⟩ := p; exact ⟨u, hu⟩
  | dK kvs => obtain ⟨_, _, _, _, o, _, _, e, _⟩ := x; exact ⟨_, e⟩
  | dT kvs => obtain ⟨_, _, _, _, o, _, _, e, _⟩ := x; exact ⟨_, e⟩
  | set S n => obtain ⟨o, _, _, _, e, _⟩ := x; exact ⟨_, e⟩
  | ins C dx fs => obtain ⟨_, _, _, e, _⟩ := x; exact ⟨_, e⟩
  | own y => obtain ⟨_, e⟩ := x; exact ⟨_, e⟩
  | xd fs => obtain ⟨_, ⟨_, _, _, e, _⟩, _⟩ := x; exact ⟨_, e⟩
  | rng lo hi => obtain ⟨_, _, _, e⟩ := x; exact ⟨_, e⟩
  | frz o u _ => exact ⟨_, x.1⟩
  | tbl ps => exact ⟨_, x⟩
  | met f y => exact ⟨_, x⟩
  | ext φ => exact x.2.1

structure Fly (h₀ : Heap) (H : Hp) (h : Heap) (e : Addr) (cls : Value) : Prop where
  new : h₀.get? e = none
  free : H e = none
  obj : ∃ oe vs T oT ts a0, h.get? e = some oe ∧ (oe.cls = cls ∧ vs[0]? = some a0) ∧ oe.data = .fields vs ∧ vs[1]? = some (.ref T) ∧ T ≠ e ∧ h.get? T = some oT ∧ oT.data = .fields ts ∧ ts[3]? = some .none ∧
    h₀.get? T = none ∧ H T = none

def CXx (P : Program) (w : World) : CXT := fun outer H s E e s' =>
  ∃ a cls H', e = .ref a ∧ s'.os = s.os ∧ AllBare s'.gens ∧ Un (frs outer) [] H H' s.heap s'.heap ∧ HOk P w H' s'.heap ∧ Fly s.heap H' s'.heap a cls ∧ E cls (some a) H'

section
variable {P : Program} {w : World} {K : PySem.W.Frag} {mg : Str → Option Value} {base : Heap} {N : List Str} {qual : Str} {scope : Scope} {f : Addr} {cd : Value} {A : Around} {outer : List Env} {s : Shared} {H H1 : Hp} {E : XK}
  {pins : List (Addr × Obj)} {σ : St} {s1 : Shared} {e : Addr} {cls : Value}

end

end L2
namespace L2
open PySem PySem.Spec PyProof.Rows

end L2
namespace L2
open PySem PySem.Spec PyProof.Rows

section
variable {X : Cx} {pins : List (Addr × Obj)} {σ : St} {H : Hp} {s : Shared}
end
end L2
namespace L2
open PySem PySem.Spec PyProof.Rows

section
variable {M : Model} {A : Around} {E : Value → Shared → Prop} {s : Shared}
end

section
variable {X : Cx} {pins : List (Addr × Obj)} {σ : St} {H : Hp} {s : Shared} {a : Addr}
end
end L2
namespace L2
open PySem PySem.Spec PyProof.Rows

section
variable {M : Model} {A : Around} {E : Value → Shared → Prop}
variable {nm q nm' q' : Str} {C N C' N' : Addr} {bs bm bs' bm' : List Value} {hdct hdct' : Bool} {sn sn' : List Str} {sub sub' : List Value} {ab ab' : Bool} {col col' : Option Bool} {dd dd' : Option Addr} {k0 k1 k2 k3 k5 l0 l1 l2 l3 l5 : Option Value} {newId newId' : String}
end

section
variable {X : Cx} {t : Expr} {b₀ : Stmt} {body : List Stmt} {pos : Pos} {rest : List ExceptHandler} {cls0 : Value} {tm : TT} {tb : TS} {tr : Addr → Value → TS}
end

section
variable {X : Cx} {e : Expr} {es : List Expr} {pos p : Pos} {t : TA}
end
end L2
namespace L2
open PySem PySem.Spec PyProof.Rows

section
variable {M : Model} {A : Around} {E : Value → Shared → Prop} {h : Heap} {g : Array GenState} {d : Drawn} {t : Nat} {os : OsState}
end

end L2
namespace L2
open PySem PySem.Spec PySem.Calls PyProof.Rows PySem.W

end L2
namespace SM
end SM
namespace L2
open PySem PySem.Spec PyProof.Rows SM
section
variable {X : Cx} {pos : Pos}
end
end L2
namespace L2
open PySem PySem.Spec PyProof.Rows SM
section
variable {X : Cx}
end
section
variable {X : Cx} {K : PySem.W.Frag}
end
section
variable {K : PySem.W.Frag} {H : Hp} {Q : VK} {a b a1 a2 b1 b2 : Addr} {xs1 xs2 ys1 ys2 : List V} {ws vs : List T3}
end
end L2
namespace L2
open PySem PySem.Spec PyProof.Rows SM
section
variable {X : Cx} {tg : Expr}
def iRngN (ta : TA) : TI := fun σ H R => ta σ H fun vs H1 => ∃ i j : Int, vs = [.int i, .int j, .int (-1)] ∧ R (Its i (-1) (i - j).toNat) H1
theorem iRngN_ap {ta : TA} {R : It → Hp → Prop} {σ : St} {H : Hp} : iRngN ta σ H R = ta σ H fun vs H1 => ∃ i j : Int, vs = [.int i, .int j, .int (-1)] ∧ R (Its i (-1) (i - j).toNat) H1 := rfl
end
end L2
namespace L2
open PySem PySem.Spec PySem.Calls PyProof.Rows PySem.W Builtin Builtin.ObjectAttr Builtin.Getset_descriptor

section
variable {prog : Program} {w : World} {A : Around} {E : Value → Shared → Prop} {h : Heap} {g : Array GenState} {d : Drawn} {t : Nat} {os : OsState} {a C : Addr} {o : Obj} {bm : List Value} {K : Frag}
end
section
variable {K : Frag} {mg : Str → Option Value} {x x' : Str} {C C' : Addr} {bm bm' : List Value}
end
end L2
namespace L2
open PySem PySem.Spec PySem.Calls PyProof.Rows SM
section
variable {X : Cx}
end
end L2
namespace SM
end SM
namespace L2
open PySem PySem.Spec PySem.Calls PyProof.Rows SM
section
variable {prog : Program} {w : World} {A : Around} {E : Value → Shared → Prop} {s : Shared}
end
section
variable {X : Cx} {tg : Expr}
def tRng (ta : TA) : TE := fun σ H Q => ta σ H fun vs H1 => ∃ j : Int, vs = [.int j] ∧ ∀ p, H1 p = none → Q (.ref p) (upd H1 p (.rng 0 j))
theorem tRng_ap {ta : TA} {σ : St} {H : Hp} {Q : VK} : tRng ta σ H Q = ta σ H fun vs H1 => ∃ j : Int, vs = [.int j] ∧ ∀ p, H1 p = none → Q (.ref p) (upd H1 p (.rng 0 j)) := rfl
def iRevR (ta : TE) : TI := fun σ H R => ta σ H fun x H1 => ∃ (a : Addr) (n : Int), x = .ref a ∧ H1 a = some (.rng 0 n) ∧ 0 ≤ n ∧ n < 2 ^ 62 ∧ R (Its (n - 1) (-1) n.toNat) H1
theorem iRevR_ap {ta : TE} {R : It → Hp → Prop} {σ : St} {H : Hp} : iRevR ta σ H R = ta σ H fun x H1 => ∃ (a : Addr) (n : Int), x = .ref a ∧ H1 a = some (.rng 0 n) ∧ 0 ≤ n ∧ n < 2 ^ 62 ∧ R (Its (n - 1) (-1) n.toNat) H1 := rfl
end
end L2
namespace SM
end SM
namespace SM
end SM
namespace L2
open PySem PySem.Spec PySem.Calls PyProof.Rows SM
section
variable {X : Cx}
end
end L2
namespace L2
open PySem PySem.Spec PyProof.Rows SM
abbrev Hd := List T3 × Int
theorem cutV_drop (xs : List V) (n : Nat) : cutV xs (some (n : Int)) none = xs.drop n := by
  unfold cutV
  have e1 : HT.sIx xs.length xs.length none = xs.length := rfl
  have e2 : HT.sIx xs.length 0 (some (n : Int)) = min n xs.length := by
    unfold HT.sIx
    simp only
    split <;> omega
  rw [e1, e2, List.take_of_length_le (by rw [List.length_drop]; omega)]
  by_cases c : n ≤ xs.length
  · rw [Nat.min_eq_left c]
  · rw [Nat.min_eq_right (by omega), List.drop_length, List.drop_eq_nil_of_le (by omega)]
section
variable {K : PySem.W.Frag} {H : Hp} {Q : VK} {a b : Addr} {xs ys : List V} {ws vs : List Hd}
end
section
variable {K : PySem.W.Frag} {H : Hp} {Q : VK} {a b : Addr} {ws vs : List (Option Int)}
end
end L2
namespace SM
open L2
end SM
namespace SM
open L2
end SM
namespace SM
open L2
end SM
namespace SM
def trial (n : Nat) : Nat → Nat → Bool
  | 0, _ => true
  | f + 1, d => if n % d = 0 then false else trial n f (d + 1)
theorem trial_ok {n : Nat} : ∀ {f d : Nat}, trial n f d = true → ∀ e, d ≤ e → e < d + f → n % e ≠ 0
  | 0, d, _, e, h1, h2 => by omega
  | f + 1, d, h, e, h1, h2 => by
    unfold trial at h
    split at h
    · cases h
    · rename_i c
      by_cases z : e = d
      · rw [z]; exact c
      · exact trial_ok h e (by omega) (by omega)
theorem prime_of_trial {n f : Nat} (h2 : 2 ≤ n) (hs : n < (2 + f) * (2 + f)) (h : trial n f 2 = true) : IsPart n n := by
  refine isPart_self (p := 2 + (f : Int)) (by omega) (fun d d2 dq e => ?_) (by omega) (by
    have z : ((n : Int)) < (((2 + f) * (2 + f) : Nat) : Int) := Int.ofNat_lt.mpr hs
    rw [Int.natCast_mul, Int.natCast_add] at z
    exact z)
  obtain ⟨k, rfl⟩ := Int.eq_ofNat_of_zero_le (show 0 ≤ d by omega)
  have := trial_ok h k (by omega) (by omega)
  exact this (by have := Int.emod_eq_zero_of_dvd e; omega)
theorem p6 : IsPart 1000003 1000003 := prime_of_trial (n := 1000003) (f := 1000) (by decide) (by decide) (by decide +kernel)
theorem p8 : IsPart 100000007 100000007 := prime_of_trial (n := 100000007) (f := 9999) (by decide) (by decide) (by decide +kernel)
end SM
namespace L2
open PySem PySem.Spec PyProof.Rows SM
section
variable {prog : Program} {w : World} {B : Around} {it : Addr} {fp wr : List Addr} {GG : Array GenState → Array GenState → Prop} {n : Nat} {PV : Nat → Value → Prop} {SV : Nat → Shared → Prop} {RR : Result → Shared → Prop}
end
section
variable {prog : Program} {w : World} {A : Around} {E : Value → Shared → Prop} {s : Shared}
end
section
variable {X : Cx}
end
end L2
namespace L2
open PySem PySem.Spec PyProof.Rows SM
section
variable {X : Cx}
end
end L2
namespace L2
open PySem PySem.Spec PyProof.Rows SM
section
variable {prog : Program} {w : World} {B : Around} {E : Value → Shared → Prop} {s : Shared}
end
section
variable {prog : Program} {w : World} {B : Around} {E : Value → Shared → Prop} {s : Shared}
end
def okET (K : PySem.W.Frag) (a : Addr) (n : Nat) (H : Hp) : Prop := ∃ xs, SqT K H a xs ∧ xs.length = n
def IteT (K : PySem.W.Frag) (a : Addr) (n : Nat) : It := Itp n (okET K a n) fun i H u v => u = .int i ∧ ∀ xs, SqT K H a xs → xs[i]? = some v
def iEnumT (K : PySem.W.Frag) (ta : TE) : TI := fun σ H R => ta σ H fun x H1 => ∃ a xs, x = .ref a ∧ SqT K H1 a xs ∧ R (IteT K a xs.length) H1
section
variable {X : Cx} {es : List Expr} {k : Nat} {tpos : Pos}
end
theorem iEnumT_ap {K : PySem.W.Frag} {ta : TE} {σ : St} {H : Hp} {R : It → Hp → Prop} : iEnumT K ta σ H R = ta σ H fun x H1 => ∃ a xs, x = .ref a ∧ SqT K H1 a xs ∧ R (IteT K a xs.length) H1 := rfl
end L2
namespace L2
open PySem PySem.Spec PyProof.Rows SM
theorem vals_strs : ∀ {ys : List Str} {its : List Value}, Vals (ys.map V.str) its → ∃ l : List (Str × Tok), its = strValues l ∧ l.map (·.1) = ys
  | [], _, .nil => ⟨[], rfl, rfl⟩
  | y :: ys, _, .cons r rs => by
    obtain ⟨t, rfl⟩ := r
    obtain ⟨l, rfl, e⟩ := vals_strs rs
    exact ⟨(y, t) :: l, rfl, by simp [e]⟩
section
variable {X : Cx}
theorem mt_join : MtR X "str.join" (fun x vs H Q => ∃ (sep : Str) (a : Addr) (ys : List Str), x = .str sep ∧ vs = [.ref a] ∧ SqL X.K H a (ys.map V.str) ∧ ys.toArray.foldl (· + ·.length + sep.length) 0 ≤ sizeLine ∧ (Builtin.Str.glued sep ys).length ≤ sizeLine ∧ Q (.str (Builtin.Str.glued sep ys)) H) := by
  intro pins s σ H x vs v us Q I rx rs h
  obtain ⟨sep, a, ys, rfl, rfl, hq, hz, hg, q⟩ := h
  obtain ⟨t, rfl⟩ := rx
  obtain ⟨u, rfl, r1⟩ := Vals.one rs
  cases r1
  obtain ⟨its, rv, pl, _⟩ := I.list hq
  obtain ⟨l, rfl, rfl⟩ := vals_strs rv
  refine call_meets PySem.F.slot_str_join (typeIs_str _ _ _) PySem.F.entry_str_join (PySem.F.args_str_join_2 _ _) (meets_str_join_list sep t a l (by simp only [Builtin.Str.tooLong]; exact decide_eq_false (Nat.not_lt.mpr hz))) ⟨pl.isList, ?_⟩
  match l, hg, q with
  | [], hg, q => exact ⟨hg, .str _, H, I.tok _, ⟨_, rfl⟩, q⟩
  | [p], _, q => exact ⟨.str p.1, H, I, ⟨_, rfl⟩, q⟩
  | p :: p2 :: l, hg, q => exact ⟨hg, .str _, H, I.tok _, ⟨_, rfl⟩, q⟩
theorem call_int_text : CallR X (.type "int") (fun xs H Q => ∃ z n, xs = [.str z] ∧ intText? z = some n ∧ z.length ≤ 640 ∧ Q (.int n) H) := by
  intro pins s σ H xs us Q I r h
  obtain ⟨z, n, rfl, e, hl, q⟩ := h
  obtain ⟨u, rfl, t, rfl⟩ := Vals.one r
  exact PySem.W.KIN.call_text e hl ⟨.int n, H, I.tok _, ⟨_, rfl⟩, q⟩
end
end L2
namespace L2
open PySem PySem.Spec PyProof.Rows SM
def Asc (z : Str) : Prop := z.cps.all (· < 128) = true
def Itc (z : Str) : It := ⟨fun i _ => i < z.cps.size, fun i H x H' => H' = H ∧ ∃ c, z.cps[i]? = some c ∧ x = .str ⟨#[c]⟩, fun i _ => z.cps.size ≤ i⟩
theorem turn_signs {P : Program} {w : World} {K : PySem.W.Frag} {tg : Expr} (z : Str) (t : Tok) (J : Addr) : Turn P w K tg (Itc z) [J] J (fun i h => h.IsStrIter J "str_ascii_iterator" z t i) where
  mem := by simp
  obj := fun i h st b hb => by
    have eb : b = J := by simpa using hb
    subst eb
    obtain ⟨o, e1, _, d1⟩ := st
    exact ⟨o, e1, fun v y => by rw [d1] at y; cases y⟩
  keep := fun i h h' st k => let ⟨o, e1, r⟩ := st; ⟨o, k J (by simp) o e1, r⟩
  item := by
    intro X hP hw hK hc i pins s σ H E I hf st hg
    subst hP hw hK
    have hi : i < z.cps.size := hg
    have hx : z.cps[i]? = some z.cps[i] := Array.getElem?_eq_getElem hi
    obtain ⟨f0, f1, f2, f3, f4, f5⟩ := hf J (by simp)
    refine wpAny_pyNext_ascii_item st hx fun h' st' sb => ?_
    have I1 : Inv X pins σ H { s with heap := h', toks := s.toks + 1 } := I.turned (t' := s.toks + 1) (fun b o hb e => (sb.2 b hb).trans e) f0 f1 f3 f4 f5
    obtain ⟨o, e1, c1, d1⟩ := id st'
    exact ⟨_, rfl, go_of (s := { s with heap := h', toks := s.toks + 1 }) e1 c1 d1 (by decide) ⟨.str ⟨#[z.cps[i]]⟩, H, I1, ⟨_, rfl⟩, ⟨rfl, z.cps[i], hx, rfl⟩, st', fun b hb => (hf b hb).1⟩⟩
  done := by
    intro X hP hw hK hc i pins s σ H E I hf st hg
    subst hP hw hK
    have hi : z.cps.size ≤ i := hg
    obtain ⟨f0, f1, f2, f3, f4, f5⟩ := hf J (by simp)
    exact wpAny_pyNext_ascii_end (I.ok.hd hc) st (Array.getElem?_eq_none hi) fun h' eb => ⟨rfl, I.turned (t' := s.toks) (fun b o hb e => eb b o hb e) f0 f1 f3 f4 f5⟩
  self := fun _ _ _ _ _ st h => wpAny_pyIter_striter_ascii st h
def iStr (tl : TE) : TI := fun σ H R => tl σ H fun x H1 => ∃ z, x = .str z ∧ Asc z ∧ R (Itc z) H1
theorem iStr_ap {tl : TE} {σ : St} {H : Hp} {R : It → Hp → Prop} : iStr tl σ H R = tl σ H fun x H1 => ∃ z, x = .str z ∧ Asc z ∧ R (Itc z) H1 := rfl
section
variable {X : Cx} {tg : Expr}
theorem pi_str {l : Expr} {tl : TE} (hl : PE X l tl) : PI X tg l (iStr tl) := by
  intro pins s σ H R I h
  refine thn (hl pins s σ H _ I h) fun v s1 ⟨x, H1, I1, r1, q1⟩ => ?_
  obtain ⟨z, rfl, hz, q⟩ := q1
  obtain ⟨t, rfl⟩ := r1
  refine wpAny_pyIter_ascii hz ?_
  refine ⟨s1.heap.objs.size, [s1.heap.objs.size], _, _, H1, rfl, I1.kept (t' := s1.toks) fun b o e => Heap.get?_push_of_some _ e, turn_signs z t _, ⟨_, Heap.get?_push_size _ rfl, rfl, rfl⟩, fun b hb => ?_, q⟩
  have eb : b = s1.heap.objs.size := by simpa using hb
  rw [eb]
  exact I1.fpOk (Nat.le_refl _) (I1.hok.fresh (Nat.le_refl _))
def CS (mg : Str → Option Value) (x : Str) (z : Str) : Prop := ∃ t, mg x = some (.str z t)
theorem cs_mk {K : PySem.W.Frag} {h : Heap} {mg : Str → Option Value} {x z : Str} {t : Tok} (X : K.In h) (G : h.Ns mainGlobals mg) (a : PySem.W.nsIn K mainGlobals x = some (some (.str z t))) : CS mg x z := ⟨t, PySem.W.mg_of X G a⟩
theorem pe_cs {x z : Str} {pos : Pos} (hg : Gl X x) (h : CS X.mg x z) (hd : (x == ("__debug__" : Str)) = false := by decide) : PE X (.Name x pos) (tC (.str z)) := by
  obtain ⟨t, e⟩ := h
  exact pe_glob hg e ⟨t, rfl⟩ hd
end
theorem compW_str {σ : St} {H : Hp} {Q : VK} {z : Str} {g : TG} {tt : TT} {te : TE} {own : List Str} {fr : List Nat} (Sv : St → Prop) (Pv : Addr → Nat → List V → Hp → Prop) (hS : Sv (st0 own fr σ))
    (h0 : ∀ D, H D = none → Pv D 0 [] (upd H D (.lst [])))
    (hs : ∀ D i c ys σ H', z.cps[i]? = some c → Sv σ → H' D = some (.lst ys) → ys.length ≤ i → Pv D i ys H' → g (.str ⟨#[c]⟩) σ H' fun σ2 H2 => tt σ2 H2 fun b H3 => if b = true then te σ2 H3 fun y H4 => CompP Sv Pv D i σ2 y H4 else CompN Sv Pv D (i + 1) σ2 H3)
    (hd : ∀ D ys H', H' D = some (.lst ys) → Pv D z.cps.size ys H' → Q (.ref D) H') : CompW (Itc z) g tt te own fr σ H Q := by
  intro D hD
  refine ⟨fun i m σ H => m = z.cps.size - i ∧ i ≤ z.cps.size ∧ CompN Sv Pv D i σ H, ⟨_, rfl, Nat.zero_le _, hS, [], upd_same, Nat.le_refl _, h0 D hD⟩, ?_⟩
  rintro i m σ1 H1 ⟨rfl, hi, hs1, ys, hy, hy2, p⟩
  by_cases hlt : i < z.cps.size
  · refine .inr ⟨hlt, CompN Sv Pv D (i + 1), fun σ' H' p' => ⟨z.cps.size - (i + 1), by omega, rfl, hlt, p'⟩, fun x H' y => ?_⟩
    obtain ⟨e, c, ec, ex⟩ := y
    subst e ex
    exact hs D i c ys σ1 _ ec hs1 hy hy2 p
  · have e : i = z.cps.size := by omega
    subst e
    exact .inl ⟨Nat.le_refl _, hd D ys H1 hy p⟩
end L2
namespace SM
open L2 PySem PySem.Builtin.Str
def tx (l : List Nat) : Str := ⟨l.toArray⟩
theorem tx_cps (z : Str) : tx z.cps.toList = z := by
  cases z
  simp [tx]
theorem str_ext {y z : Str} (h : y.cps.toList = z.cps.toList) : y = z := by
  rw [← tx_cps y, ← tx_cps z, h]
theorem glued_fold (g : Array Nat) : ∀ (ps : List Str) (acc : Array Nat), (ps.foldl (fun acc p => acc ++ g ++ p.cps) acc).toList = acc.toList ++ ps.flatMap fun p => g.toList ++ p.cps.toList
  | [], acc => by simp
  | p :: ps, acc => by
    rw [List.foldl_cons, glued_fold g ps]
    simp
theorem digs_head : ∀ m : Nat, 0 < m → ∃ ch r, Nat.toDigits 10 m = ch :: r ∧ ch.toNat ≠ 48 := by
  intro m
  induction m using Nat.strongRecOn with
  | _ m ih =>
    intro h0
    by_cases h : m < 10
    · rw [Nat.toDigits_of_lt_base h]
      refine ⟨_, [], rfl, ?_⟩
      have : ∀ d : Nat, d < 10 → 0 < d → (Nat.digitChar d).toNat ≠ 48 := by decide
      exact this m h h0
    · have hm : m % 10 < 10 := Nat.mod_lt m (by decide)
      have t : Nat.toDigits 10 (m / 10) ++ Nat.toDigits 10 (m % 10) = Nat.toDigits 10 (10 * (m / 10) + m % 10) := Nat.toDigits_append_toDigits (by decide) (by omega) hm
      rw [Nat.div_add_mod] at t
      obtain ⟨ch, r, e, ne⟩ := ih (m / 10) (by omega) (by omega)
      rw [← t, e]
      exact ⟨ch, _, rfl, ne⟩
theorem digs_len : ∀ (k m : Nat), m < 10 ^ (k + 1) → (Nat.toDigits 10 m).length ≤ k + 1
  | 0, m, h => by
    rw [Nat.toDigits_of_lt_base (by simpa using h)]
    simp
  | k + 1, m, h => by
    by_cases h1 : m < 10
    · rw [Nat.toDigits_of_lt_base h1]
      simp
    · have hm : m % 10 < 10 := Nat.mod_lt m (by decide)
      have t : Nat.toDigits 10 (m / 10) ++ Nat.toDigits 10 (m % 10) = Nat.toDigits 10 (10 * (m / 10) + m % 10) := Nat.toDigits_append_toDigits (by decide) (by omega) hm
      rw [Nat.div_add_mod] at t
      have ih := digs_len k (m / 10) (by rw [Nat.pow_succ] at h; omega)
      rw [← t, List.length_append, Nat.toDigits_of_lt_base hm]
      simp
      omega
theorem num_text {n : Int} (h0 : 0 ≤ n) : ∃ l : List Nat, Str.ofString (toString n) = tx l ∧ PySem.NumText.AllDigits l ∧ l ≠ [] ∧ ((PySem.NumText.digitsVal l : Nat) : Int) = n ∧ (l[0]? = some 48 → l.length = 1) ∧ ∀ k : Nat, n < 10 ^ (k + 1) → l.length ≤ k + 1 := by
  obtain ⟨m, rfl⟩ := Int.eq_ofNat_of_zero_le h0
  refine ⟨(Nat.toDigits 10 m).map Char.toNat, ?_, ?_, ?_, ?_, ?_, ?_⟩
  · rw [← tx_cps (Str.ofString _), PySem.W.KIN.signs_num]
  · intro c hc
    obtain ⟨ch, hch, e⟩ := List.mem_map.mp hc
    rw [← e]
    exact PyProof.Rows.digit_range (Nat.isDigit_of_mem_toDigits (by decide) (by decide) hch)
  · intro e
    have := List.map_eq_nil_iff.mp e
    have h := PySem.toDigits_len_ge 10 m
    rw [this] at h
    exact absurd h (by decide)
  · rw [PySem.W.KIN.val_back]
  · intro e
    rcases Nat.eq_zero_or_pos m with rfl | hp
    · rfl
    · obtain ⟨ch, r, e1, ne⟩ := digs_head m hp
      rw [e1] at e
      exact absurd (by simpa using e) ne
  · intro k hk
    rw [List.length_map]
    refine digs_len k m ?_
    have e : ((10 ^ (k + 1) : Nat) : Int) = 10 ^ (k + 1) := by rw [Int.natCast_pow]; rfl
    rw [← e] at hk
    exact Int.ofNat_lt.mp hk
end SM
namespace L2
open PySem PySem.Spec PyProof.Rows
end L2
namespace L2
open PySem PySem.Spec PyProof.Rows
section
variable {prog : Program} {w : World}
variable {A : Around} {E : Value → Shared → Prop} {s : Shared}
end
end L2
namespace L2
open PySem PySem.Spec PyProof.Rows
section
variable {prog : Program} {w : World} {A : Around}
end
end L2
namespace L2
open PySem PySem.Spec PyProof.Rows
section
variable {prog : Program} {w : World} {A : Around} {E : Value → Shared → Prop} {s : Shared}
end
end L2
namespace L2
open PySem PySem.Spec PyProof.Rows
section
variable {prog : Program} {w : World} {A : Around} {E : Value → Shared → Prop}
end
end L2
namespace L2
open PySem PySem.Spec PyProof.Rows
section
variable {prog : Program} {w : World} {A : Around} {E : Value → Shared → Prop} {s : Shared} {I S : Addr} {i ep slot : Nat} {es : Array (Int × Value)} {t : SetTable}
end
end L2
namespace L2
open PySem PySem.Spec PyProof.Rows
section
variable {prog : Program} {w : World} {A : Around} {E : Value → Shared → Prop} {s : Shared} {I S T : Addr} {i ep : Nat} {es : Array (Int × Value)} {t : SetTable} {ps : List Nat}
end
end L2
namespace L2
open PySem PySem.Spec PyProof.Rows
section
variable {prog : Program} {w : World} {A : Around} {I S T : Addr} {ep : Nat} {es : Array (Int × Value)} {t : SetTable} {ps : List Nat}
end
end L2
namespace L2
open PySem PySem.Spec PyProof.Rows
section
variable {prog : Program} {w : World} {A : Around} {E : Value → Shared → Prop} {s : Shared} {S : Addr} {ep : Nat} {es : Array (Int × Value)} {t : SetTable}
end
end L2
namespace L2
open PySem PySem.Spec PyProof.Rows
section
variable {prog : Program} {w : World} {A : Around} {E : Value → Shared → Prop} {s : Shared} {S : Addr} {ep : Nat} {es : Array (Int × Value)} {t : SetTable}
end
end L2
namespace L2
open PySem PySem.Spec PySem.Calls PyProof.Rows
section
variable {prog : Program} {w : World} {A : Around} {E : Value → Shared → Prop} {s : Shared}
end
section
variable {X : Cx}
end
end L2
namespace L2
open PySem PySem.Spec PyProof.Rows

def cxCompX (X : Cx) (N : List Str) (scope : Scope) (cl : List (Str × Addr)) (s : Shared) (H : Hp) (fp : List Addr) (E : XK) : Cx :=
  (cxComp X N scope cl s H fp).wish fun e s' => ∃ pins σ H1 s1, Inv (cxComp X N scope cl s H fp) pins σ H1 s1 ∧ CXx X.prog X.w X.stack H1 s1 E e s'
theorem cxCompX_K {X : Cx} {N : List Str} {scope : Scope} {cl : List (Str × Addr)} {s : Shared} {H : Hp} {fp : List Addr} {E : XK} : (cxCompX X N scope cl s H fp E).K = X.K := rfl
section
variable {X : Cx} {pins : List (Addr × Obj)} {σ : St} {H : Hp} {s : Shared}
end
end L2
namespace L2
open PySem
section
variable {prog : Program} {w : World} {A : Around} {E : Value → Shared → Prop} {s : Shared}
end
section
variable {prog : Program} {w : World} {A : Around} {E : Value → Shared → Prop} {s : Shared}
end
end L2
namespace L2
open PySem PySem.Spec PyProof.Rows
def Itp3 (n : Nat) (ok : Hp → Prop) (f : Nat → Hp → V → V → V → Prop) : It :=
  ⟨fun i H => i < n ∧ ok H, fun i H x H' => ∃ T u v t, H T = none ∧ x = .ref T ∧ H' = upd H T (.tup [u, v, t]) ∧ f i H u v t, fun i H => i = n ∧ ok H⟩
def okZ3 (K : PySem.W.Frag) (a b c : Addr) (n : Nat) (H : Hp) : Prop := ∃ xs ys zs, SqL K H a xs ∧ SqL K H b ys ∧ SqL K H c zs ∧ min (min xs.length ys.length) zs.length = n
def Itz3 (K : PySem.W.Frag) (a b c : Addr) (n : Nat) : It := Itp3 n (okZ3 K a b c n) fun i H u v t => (∀ xs, SqL K H a xs → xs[i]? = some u) ∧ (∀ ys, SqL K H b ys → ys[i]? = some v) ∧ ∀ zs, SqL K H c zs → zs[i]? = some t
def iZip3 (K : PySem.W.Frag) (ta tb tc : TE) : TI := fun σ H R => ta σ H fun x H1 => tb σ H1 fun y H2 => tc σ H2 fun z H3 => ∃ a b c xs ys zs, x = .ref a ∧ y = .ref b ∧ z = .ref c ∧ SqL K H3 a xs ∧ SqL K H3 b ys ∧ SqL K H3 c zs ∧ R (Itz3 K a b c (min (min xs.length ys.length) zs.length)) H3
section
variable {X : Cx} {es : List Expr} {k : Nat} {tpos : Pos}
end
theorem iZip3_ap {K : PySem.W.Frag} {ta tb tc : TE} {σ : St} {H : Hp} {R : It → Hp → Prop} : iZip3 K ta tb tc σ H R = ta σ H fun x H1 => tb σ H1 fun y H2 => tc σ H2 fun z H3 => ∃ a b c xs ys zs, x = .ref a ∧ y = .ref b ∧ z = .ref c ∧ SqL K H3 a xs ∧ SqL K H3 b ys ∧ SqL K H3 c zs ∧ R (Itz3 K a b c (min (min xs.length ys.length) zs.length)) H3 := rfl
end L2
namespace L2
open PySem PySem.Spec PyProof.Rows
section
variable {X : Cx}
end
end L2
namespace L2
open PySem PySem.Spec PyProof.Rows
section
variable {X : Cx}
end
end L2
namespace L2
open PySem PySem.Spec PySem.Calls PyProof.Rows PySem.W
end L2
namespace L2
open PySem PySem.Spec PySem.Calls PyProof.Rows PySem.W SM
theorem isPart_of {v : Value} {o : Option Int} (h : IsPart v o) : ∃ l : Option (Int × Tok), v = partValue l ∧ l.map (·.1) = o := by
  cases h with
  | none => exact ⟨none, rfl, rfl⟩
  | int i t => exact ⟨some (i, t), rfl, rfl⟩
def rSlS : V → Option Int → Option Int → Hp → VK → Prop := fun x lo hi H Q => ∃ z, x = .str z ∧ z.length ≤ sizeLine ∧ Q (.str (Txt.slice z lo hi)) H
section
variable {X : Cx}
theorem sl_str : SlR X rSlS := by
  intro pins s σ H x v vl vu lo hi sl Q I rx hs pl pu h
  obtain ⟨z, rfl, hz, q⟩ := h
  obtain ⟨t, rfl⟩ := rx
  obtain ⟨l, rfl, rfl⟩ := isPart_of pl
  obtain ⟨u, rfl, rfl⟩ := isPart_of pu
  refine ⟨"str", _, F.slot_str_getitem.lookup, typeIs_str _ _ _, wpAny_getItem_str_slice (l := l) (u := u) (st := none) hs rfl ?_⟩
  exact post_val_or_str ⟨Nat.le_trans (Txt.slice_le z _ _) hz, fun t' k => ⟨.str _, H, I.tok _, ⟨_, rfl⟩, q⟩⟩
end
theorem asc_iff {z : Str} : Asc z ↔ ∀ c ∈ z.cps.toList, c < 128 := by
  unfold Asc
  rw [Array.all_eq_true_iff_forall_mem]
  exact ⟨fun h c hc => of_decide_eq_true (h c (Array.mem_toList_iff.mp hc)), fun h c hc => decide_eq_true (h c (Array.mem_toList_iff.mpr hc))⟩
theorem Asc.slice {z : Str} (h : Asc z) (lo hi : Option Int) : Asc (Txt.slice z lo hi) := by
  unfold Txt.slice
  split
  · exact h
  · rw [asc_iff] at h ⊢
    intro c hc
    simp only [List.mem_filterMap] at hc
    obtain ⟨i, _, e⟩ := hc
    exact h c (Array.mem_toList_iff.mpr (Array.mem_of_getElem? e))
theorem str_app (y z : Str) : (y ++ z).cps.toList = y.cps.toList ++ z.cps.toList := by
  show (y.cps ++ z.cps).toList = _
  simp
theorem Asc.app {y z : Str} (h : Asc y) (k : Asc z) : Asc (y ++ z) := by
  rw [asc_iff] at h k ⊢
  intro c hc
  rw [str_app] at hc
  rcases List.mem_append.mp hc with e | e
  · exact h c e
  · exact k c e
end L2
namespace L2
open PySem PySem.Spec PySem.Calls PyProof.Rows PySem.W
end L2
namespace L2
open PySem PySem.Spec PySem.Calls PyProof.Rows PySem.W
def TM (K : PySem.W.Frag) (C : Addr) (x qual : Str) (st : Stmt) : Prop := ∃ f fd, Fun K x qual st f fd ∧ Meth K C x f
theorem tm_mk {K : PySem.W.Frag} {C : Addr} {x qual : Str} {st : Stmt} {f : Addr} {oc : Value} {od an : Option Addr} {osl : Array (Option Value)} {kV doc pm cdv ct : Value}
    (a : PySem.W.findIn K (.ref C) x = some (some (.ref f))) (i : PySem.W.isFn K (.ref f) = true) (l : K.lookup f = some ⟨oc, od, .func (PySem.W.fnOf x qual (defArgs st) (defBody st) (defScope st) .none kV doc pm an cdv ct), osl⟩) (c : PySem.W.codeIn K cdv qual = true) (k : PySem.W.keepIn K (.ref f) = true) : TM K C x qual st :=
  ⟨f, _, fun_mk l c k, a, i, k⟩
def HasM (P : Program) (w : World) (K : PySem.W.Frag) (mg : Str → Option Value) (base : Heap) (k : Nat) (C : Addr) (x : Str) (ps : List Str) (sp : Sp) : Prop :=
  ∃ f fd, FnOk P w K mg base CX0 k f fd ps sp ∧ (∀ us : List Value, us.length = ps.length → bindArgs fd ⟨us, []⟩ = pure (ps.zip us)) ∧ Meth K C x f
theorem HasM.mono {P : Program} {w : World} {K : PySem.W.Frag} {mg : Str → Option Value} {base : Heap} {j k : Nat} {C : Addr} {x : Str} {ps : List Str} {sp : Sp} (h : HasM P w K mg base j C x ps sp) (hk : j ≤ k) : HasM P w K mg base k C x ps sp :=
  let ⟨f, fd, F, b⟩ := h
  ⟨f, fd, F.mono hk, b⟩
theorem TM.has {P : Program} {w : World} {K : PySem.W.Frag} {mg : Str → Option Value} {base : Heap} {C : Addr} {x qual : Str} {st : Stmt} {N ps : List Str} {k : Nat} {sp : Sp} (T : TM K C x qual st) (S : FnScope N ps (defScope st))
    (hb : ∀ (kV doc pm : Value) (an : Option Addr) (cdv ct : Value) (us : List Value), us.length = ps.length → bindArgs (PySem.W.fnOf x qual (defArgs st) (defBody st) (defScope st) .none kV doc pm an cdv ct) ⟨us, []⟩ = pure (ps.zip us))
    (len : ∀ vs H Q E, sp vs H Q E → vs.length = ps.length)
    (hbody : ∀ (f : Addr) (cdv : Value) (A : Around) (outer : List Env) (s : Shared) (H : Hp) (vs : List V) (Q : VK) (E : XK), Room k (A.deeper (envOfC qual (defScope st) s.heap.objs.size f cdv)) → sp vs H Q E →
      ∃ t, PSs (cxOf CX0 P w K mg base N qual (defScope st) f cdv A outer s H E).nox (defBody st) t ∧ t { nx := fun _ H' => Q .non H', rt := Q } (start N vs) H) : HasM P w K mg base (k + 1) C x ps sp := by
  obtain ⟨f, fd, F, m⟩ := T
  have ok := F.ok (P := P) (w := w) (mg := mg) (base := base) S len fun cdv A outer s H vs Q E hr hsp => hbody f cdv A outer s H vs Q E hr hsp
  obtain ⟨oc, od, kV, doc, pm, an, cdv, ct, osl, rfl, lk, hcd⟩ := F.ex
  exact ⟨f, _, ok, hb kV doc pm an cdv ct, m⟩
section
variable {X : Cx} {k : Nat} {C : Addr} {ps : List Str} {sp : Sp} {x m : Str} {p pos apos : Pos} {e o : Expr} {es : List Expr} {ta : TE} {t : TA}
theorem pe_mth {pl : Sem Bool} (he : PE X o ta) (c : Cls X.K C) (h : HasM X.prog X.w X.K X.mg X.base k C m ps sp) (hr : Room k X.A) (ha : PA X (e :: es) t)
    (hst : starEach (e :: es) X.env = (false, eval e X.env) :: starEach es X.env := by rfl) (hpl : (backTo pos (starEach es X.env)).any (·.1) = false := by rfl)
    (ht : eval (.Call (.Attribute o m apos) (e :: es) [] pos) X.env = (do
      let ov ← eval o X.env
      standAt apos.atName
      let (f, first) ← holding [ov] (getMethod ov m pl)
      callWith pos f first (backTo pos (starEach (e :: es) X.env)) (backToKw pos (keywordEach [] X.env))) := by rfl) :
    PE X (.Call (.Attribute o m apos) (e :: es) [] pos) (tMeth C m sp [] E0 ta t) := by
  obtain ⟨f, fd, F, hb, hm⟩ := h
  exact pe_meth he c hm F hr (.all hb) .nil pass0 ha hst hpl ht
theorem pe_mth0 {pl : Sem Bool} (he : PE X o ta) (c : Cls X.K C) (h : HasM X.prog X.w X.K X.mg X.base k C m ps sp) (hr : Room k X.A)
    (ht : eval (.Call (.Attribute o m apos) [] [] pos) X.env = (do
      let ov ← eval o X.env
      standAt apos.atName
      let (f, first) ← holding [ov] (getMethod ov m pl)
      callWith pos f first (backTo pos (starEach [] X.env)) (backToKw pos (keywordEach [] X.env))) := by rfl) :
    PE X (.Call (.Attribute o m apos) [] [] pos) (tMeth C m sp [] E0 ta tNil) := by
  obtain ⟨f, fd, F, hb, hm⟩ := h
  exact pe_meth0 he c hm F hr (.all hb) .nil pass0 ht
theorem pe_mk (h : HasM X.prog X.w X.K X.mg X.base k C "__init__" ps sp) (mk : PySem.W.makesIn X.K C = true) (kc : PySem.W.keepIn X.K (.ref C) = true) (hr : Room (k + 1) X.A) (hg : Gl X x) (hm : X.mg x = some (.ref C))
    (ha : PA X (e :: es) t) (hdb : (x == ("__debug__" : Str)) = false := by decide) (he : starEach (e :: es) X.env = (false, eval e X.env) :: starEach es X.env := by rfl) (hpl : (backTo pos (starEach es X.env)).any (·.1) = false := by rfl) :
    PE X (.Call (.Name x p) (e :: es) [] pos) (tMake C sp [] E0 t) := by
  obtain ⟨f, fd, F, hb, hM⟩ := h
  exact pe_make ⟨mk, hM.at_, hM.fn, kc⟩ F hr hg hm (.all hb) .nil pass0 ha hdb he hpl
end
def tFmt (te : TE) : TE := fun σ H Q => te σ H fun x H1 => (∃ i, x = .int i ∧ i.natAbs.log2 < 1920 ∧ Q (.str (toString i)) H1) ∨ ∃ z, x = .str z ∧ z.length ≤ sizeLine ∧ Q (.str z) H1
abbrev TJ := Str → TE
def jNil : TJ := fun acc _ H Q => acc.length ≤ sizeLine ∧ Q (.str acc) H
def jCons (te : TE) (tj : TJ) : TJ := fun acc σ H Q => te σ H fun x H1 => ∃ z, x = .str z ∧ (acc ++ z).length ≤ sizeLine ∧ tj (acc ++ z) σ H1 Q
def tJoin (tj : TJ) : TE := fun σ H Q => tj Str.empty σ H Q
section
variable {σ : St} {H : Hp} {Q : VK} {te : TE} {tj : TJ} {acc : Str}
theorem tFmt_ap : tFmt te σ H Q = te σ H fun x H1 => (∃ i, x = .int i ∧ i.natAbs.log2 < 1920 ∧ Q (.str (toString i)) H1) ∨ ∃ z, x = .str z ∧ z.length ≤ sizeLine ∧ Q (.str z) H1 := rfl
theorem jNil_ap : jNil acc σ H Q = (acc.length ≤ sizeLine ∧ Q (.str acc) H) := rfl
theorem jCons_ap : jCons te tj acc σ H Q = te σ H fun x H1 => ∃ z, x = .str z ∧ (acc ++ z).length ≤ sizeLine ∧ tj (acc ++ z) σ H1 Q := rfl
theorem tJoin_ap : tJoin tj σ H Q = tj Str.empty σ H Q := rfl
end
section
variable {X : Cx} {e a b : Expr} {es : List Expr} {te : TE} {tj : TJ} {pos : Pos}
def PJ (X : Cx) (es : List Expr) (tj : TJ) : Prop := ∀ (pins : List (Addr × Obj)) (s : Shared) (σ : St) (H : Hp) (acc : Str) (Q : VK), Inv X pins σ H s → tj acc σ H Q → wpAny (model X.prog X.w) X.A (joinParts acc (evalEach es X.env)) (EP X pins σ Q) X.xe s
theorem pj_nil : PJ X [] jNil := by
  intro pins s σ H acc Q I h
  exact joinParts_nil ⟨.str acc, H, I.tok _, ⟨_, rfl⟩, h.2⟩ h.1
theorem pj_cons (he : PE X e te) (hj : PJ X es tj) : PJ X (e :: es) (jCons te tj) := by
  intro pins s σ H acc Q I h
  refine joinParts_cons (thn (he pins s σ H _ I h) fun v s1 ⟨x, H1, I1, r1, q1⟩ => ?_)
  obtain ⟨z, rfl, hz, q⟩ := q1
  obtain ⟨t, rfl⟩ := r1
  exact ⟨hz, hj pins s1 σ H1 _ Q I1 q⟩
theorem pe_join (hj : PJ X (a :: b :: es) tj) : PE X (.JoinedStr (a :: b :: es) pos) (tJoin tj) := by
  intro pins s σ H Q I h
  exact JoinedStr_many (hj pins s σ H _ Q I h)
theorem pe_fmt (he : PE X e te) : PE X (.FormattedValue e (-1) none pos) (tFmt te) := by
  intro pins s σ H Q I h
  refine FormattedValue_plain (thn (he pins s σ H _ I h) fun v s1 ⟨x, H1, I1, r1, q1⟩ => ?_)
  rcases q1 with ⟨i, rfl, hi, q⟩ | ⟨z, rfl, hz, q⟩
  · obtain ⟨t, rfl⟩ := r1
    exact formatField_int_small hi ⟨.str _, H1, I1.tok _, ⟨_, rfl⟩, q⟩
  · obtain ⟨t, rfl⟩ := r1
    exact formatField_str (fun t' tk => ⟨.str _, H1, I1.tok _, ⟨_, rfl⟩, q⟩) hz
theorem mt_startsF : MtR X "str.startswith" (fun x vs H Q => ∃ (z y : Str) (i : Int), x = .str z ∧ vs = [.str y, .int i] ∧ Q (.bl (decide (PySem.fromIndex z.length i + y.length ≤ z.length) && Builtin.Str.subAt z y (PySem.fromIndex z.length i))) H) := by
  intro pins s σ H x vs v us Q I rx rs h
  obtain ⟨z, y, i, rfl, rfl, q⟩ := h
  obtain ⟨t, rfl⟩ := rx
  obtain ⟨u, w, rfl, r1, r2⟩ := Vals.two rs
  obtain ⟨t1, rfl⟩ := r1
  obtain ⟨t2, rfl⟩ := r2
  exact call_gives PySem.F.slot_str_startswith (typeIs_str _ _ _) PySem.F.entry_str_startswith (PySem.F.args_str_startswith_3 _ _ _) (gives_str_startswith_from z y i t t1 t2) ⟨.bl _, H, I.tok _, rfl, q⟩
end
section
variable {K : PySem.W.Frag} {σ : St} {H : Hp} {Q : VK} {D : Ends} {ta tv : TE} {t : TA} {f m : Str} {C : Addr} {sp : Sp} {dvs : List V} {E : XK} {rd : V → V → Hp → VK → Prop}
theorem tFld_ap : tFld K ta f σ H Q = ta σ H fun x H1 => ∃ a C dx fs v, x = .ref a ∧ H1 a = some (.ins C dx fs) ∧ Cls K C ∧ NoAttr K C f ∧ fs.lookup f = some v ∧ Q v H1 := rfl
theorem sFld_ap : sFld K ta tv f D σ H = tv σ H fun y H1 => ta σ H1 fun x H2 => ∃ a C dx fs, x = .ref a ∧ H2 a = some (.ins C dx fs) ∧ Cls K C ∧ NoAttr K C f ∧ fs.length < 1000 ∧ D.nx σ (upd H2 a (.ins C dx (putF f y fs))) := rfl
theorem sFldAug_ap : sFldAug K ta tv rd f D σ H = ta σ H fun x H1 => ∃ a C dx fs v, x = .ref a ∧ H1 a = some (.ins C dx fs) ∧ Cls K C ∧ NoAttr K C f ∧ fs.lookup f = some v ∧ tv σ H1 fun y H2 => rd v y H2 fun z H3 => ∃ dx' fs', H3 a = some (.ins C dx' fs') ∧ fs'.length < 1000 ∧ D.nx σ (upd H3 a (.ins C dx' (putF f z fs'))) := rfl
theorem tMeth_ap : tMeth C m sp dvs E ta t σ H Q = ta σ H fun x H1 => ∃ a dx fs, x = .ref a ∧ H1 a = some (.ins C dx fs) ∧ fs.lookup m = none ∧ t σ H1 fun vs H2 => sp (x :: (vs ++ dvs)) H2 Q E := rfl
theorem tMake_ap : tMake C sp dvs E t σ H Q = t σ H fun vs H1 => ∀ x dx, H1 x = none → H1 dx = none → dx ≠ x → sp (.ref x :: (vs ++ dvs)) (upd (upd H1 dx (.own x)) x (.ins C dx [])) (fun v H2 => v = .non ∧ Q (.ref x) H2) E := rfl
end
end L2
set_option maxHeartbeats 4000000
open PySem L2 SM
local macro_rules | `(tactic| walk_at "wp") => `(tactic| try simp only [tSeq_ap, tIfS_ap, tAsg_ap, gName_ap, tRet_ap, tRetN_ap, tNext_ap, tBreak_ap, tCont_ap, tDrop_ap, tC_ap, tVar_0, tVar_s, tOp_ap, tUn_ap, rI0_ap, rI_ap, rU_ap, rEq_int, rNe_int, tTest_ap, tB_ap, ex_bl, ex_ref, ex_int, tAnd_ap, tOr_ap, tNot_ap, tAndV_ap, tOrV_ap, tNotV_ap, tIf_ap, tNil_ap, tCons_ap, tTup_ap, tLst_ap, tCall_ap, tCB_ap, tChain_ap, tPar_ap, ex_two, tAug_ap, ipI_ap, tSl_ap, tNoPart_ap, tPart_ap, tBM_ap, tBM0_ap, tTrue_ap, gSub_ap, gCons_ap, gNil_ap, tFor_ap, iRng1_ap, iRng2_ap, iRngA_ap, iRng3_ap, iRngN_ap, iRevR_ap, tRng_ap, iList_ap, iTup_ap, iRev_ap, iZip_ap, iZip3_ap, iEnum_ap, iEnumT_ap, iStr_ap, tFmt_ap, jNil_ap, jCons_ap, tJoin_ap, tFld_ap, sFld_ap, sFldAug_ap, tMeth_ap, tMake_ap, tListRev_ap, tMinD_ap, tMaxD_ap, tComp_ap, ite_and, L2.start, cxOf_K, cxComp_K, cxCompX_K, List.map_cons, List.map_nil, List.length_cons, List.length_nil, List.replicate, List.cons_append, List.nil_append, List.append_nil, List.set_cons_zero, List.set_cons_succ, decide_eq_true_eq, Bool.not_eq_true', decide_eq_false_iff_not, Bool.not_eq_eq_eq_not, Bool.not_true, Bool.not_false, sizeLine_eq, oV, reduceCtorEq, isI_ii, isI_ib, isI_ni, isI_bb, Nat.reduceAdd, Nat.reduceSub, Nat.reduceLeDiff, Nat.zero_add, true_and, and_true, forall_const, Bool.false_eq_true, if_true, if_false, false_implies, true_implies, not_false_eq_true, not_true_eq_false, implies_true])
seal L2.PSs L2.PS L2.PE L2.PT L2.PA L2.PI L2.PG L2.PTs L2.PW L2.OpR
namespace SMk73
open PySem L2 SM
def top (i : Nat) : Stmt := PySem.Challenge.pw_shiftmeet_k73_papers_written.main.body.getD i (.Pass ⟨0, 0, 0, 0⟩)
abbrev s_read_number : Stmt := top 7
abbrev s_is_figures : Stmt := top 8
abbrev s_shown_paper : Stmt := top 9
abbrev s_read_paper : Stmt := top 10
abbrev s_law_cell_at : Stmt := top 13
abbrev s_law_depth : Stmt := top 14
abbrev s_law_paper : Stmt := top 15
abbrev s_law_text : Stmt := top 16
abbrev s_law_alike : Stmt := top 17
abbrev s_law_copy : Stmt := top 18
abbrev s_law_emptied : Stmt := top 19
abbrev s_law : Stmt := top 20
abbrev s_PaperReader___init__ : Stmt := inClass (top 11) 0
abbrev s_PaperReader_next_paper : Stmt := inClass (top 11) 1
abbrev s_PaperReader_next_papers : Stmt := inClass (top 11) 2
abbrev s_PaperReader_next_number : Stmt := inClass (top 11) 3
abbrev s_PaperReader_needs : Stmt := inClass (top 11) 4
abbrev s_PaperReader_passes : Stmt := inClass (top 11) 5
theorem sc_read_number : FnScope ["text"] ["text"] (defScope s_read_number) := ⟨rfl, rfl, rfl, by decide +kernel, rfl, by decide +kernel, by decide +kernel⟩
theorem sc_is_figures : FnScope ["text", "most"] ["text", "most"] (defScope s_is_figures) := ⟨rfl, rfl, rfl, by decide +kernel, rfl, by decide +kernel, by decide +kernel⟩
theorem sc_shown_paper : FnScope ["paper", "number", "papers"] ["paper"] (defScope s_shown_paper) := ⟨rfl, rfl, rfl, by decide +kernel, rfl, by decide +kernel, by decide +kernel⟩
theorem sc_read_paper : FnScope ["text", "reader", "paper"] ["text"] (defScope s_read_paper) := ⟨rfl, rfl, rfl, by decide +kernel, rfl, by decide +kernel, by decide +kernel⟩
theorem sc_law_cell_at : FnScope ["script", "k"] ["script", "k"] (defScope s_law_cell_at) := ⟨rfl, rfl, rfl, by decide +kernel, rfl, by decide +kernel, by decide +kernel⟩
theorem sc_law_depth : FnScope ["paper", "deep", "one"] ["paper"] (defScope s_law_depth) := ⟨rfl, rfl, rfl, by decide +kernel, rfl, by decide +kernel, by decide +kernel⟩
theorem sc_law_paper : FnScope ["script", "pile", "deeps", "cell", "many", "at", "deep", "number"] ["script"] (defScope s_law_paper) := ⟨rfl, rfl, rfl, by decide +kernel, rfl, by decide +kernel, by decide +kernel⟩
theorem sc_law_text : FnScope ["paper"] ["paper"] (defScope s_law_text) := ⟨rfl, rfl, rfl, by decide +kernel, rfl, by decide +kernel, by decide +kernel⟩
theorem sc_law_alike : FnScope ["told", "due"] ["told", "due"] (defScope s_law_alike) := ⟨rfl, rfl, rfl, by decide +kernel, rfl, by decide +kernel, by decide +kernel⟩
theorem sc_law_copy : FnScope ["paper"] ["paper"] (defScope s_law_copy) := ⟨rfl, rfl, rfl, by decide +kernel, rfl, by decide +kernel, by decide +kernel⟩
theorem sc_law_emptied : FnScope ["paper", "part"] ["paper"] (defScope s_law_emptied) := ⟨rfl, rfl, rfl, by decide +kernel, rfl, by decide +kernel, by decide +kernel⟩
theorem sc_law : FnScope ["script", "paper", "handed", "text"] ["script"] (defScope s_law) := ⟨rfl, rfl, rfl, by decide +kernel, rfl, by decide +kernel, by decide +kernel⟩
theorem sc_PaperReader___init__ : FnScope ["self", "text"] ["self", "text"] (defScope s_PaperReader___init__) := ⟨rfl, rfl, rfl, by decide +kernel, rfl, by decide +kernel, by decide +kernel⟩
theorem sc_PaperReader_next_paper : FnScope ["self", "above", "by"] ["self", "above"] (defScope s_PaperReader_next_paper) := ⟨rfl, rfl, rfl, by decide +kernel, rfl, by decide +kernel, by decide +kernel⟩
theorem sc_PaperReader_next_papers : FnScope ["self", "above", "papers"] ["self", "above"] (defScope s_PaperReader_next_papers) := ⟨rfl, rfl, rfl, by decide +kernel, rfl, by decide +kernel, by decide +kernel⟩
theorem sc_PaperReader_next_number : FnScope ["self", "begin"] ["self"] (defScope s_PaperReader_next_number) := ⟨rfl, rfl, rfl, by decide +kernel, rfl, by decide +kernel, by decide +kernel⟩
theorem sc_PaperReader_needs : FnScope ["self", "signs"] ["self", "signs"] (defScope s_PaperReader_needs) := ⟨rfl, rfl, rfl, by decide +kernel, rfl, by decide +kernel, by decide +kernel⟩
theorem sc_PaperReader_passes : FnScope ["self", "signs"] ["self", "signs"] (defScope s_PaperReader_passes) := ⟨rfl, rfl, rfl, by decide +kernel, rfl, by decide +kernel, by decide +kernel⟩
section
variable {P : Program} {w : World} {K : PySem.W.Frag} {mg : Str → Option Value} {base : Heap}
theorem modB (x : Int) {m : Int} (h : 0 < m) : 0 ≤ x % m ∧ x % m < m := ⟨Int.emod_nonneg _ (by omega), Int.emod_lt_of_pos _ h⟩
theorem getD_all {Pz : Int → Prop} {zs : List Int} {i : Nat} (h : ∀ z ∈ zs, Pz z) (hi : i < zs.length) : Pz (zs.getD i 0) := by
  rw [List.getD_eq_getElem?_getD, List.getElem?_eq_getElem hi]
  exact h _ (List.getElem_mem hi)
def sp_cell_at (K : PySem.W.Frag) : Sp := fun vs H Q _ => ∃ (a : Addr) (ns : List Int) (k : Int), vs = [.ref a, .int k] ∧ SqL K H a (ns.map V.int) ∧ 0 ≤ k ∧ Q (.int (ns.getD k.toNat 0)) H
theorem h_law_cell_at (T : TF K mg "_law_cell_at" s_law_cell_at) (m_len : mg "len" = none) : Has P w K mg base 1 "_law_cell_at" ["script", "k"] (sp_cell_at K) := by
  refine T.has sc_law_cell_at (fun _ _ _ _ _ _ us hl => match us, hl with | [_, _], _ => rfl) (fun vs H Q E h => ?_) (fun f cdv A outer s H vs Q E hr h => ?_)
  · obtain ⟨a, ns, k, rfl, _⟩ := h
    rfl
  obtain ⟨a, ns, k, rfl, hS, hk, q⟩ := h
  refine ⟨_, (pss_cons (ps_if (pt_cmpR op_lt (pv 1) (pe_callB call_len_seq rfl m_len PySem.boot_len (pa_cons (pv 0) pa_nil)) (nomark _)) (pss_one (ps_ret (pe_ix ix_list (pv 0) (pv 1) (fun _ _ => rfl)))) pss_nil) (pss_one (ps_ret pe_int))), ?_⟩
  walk_at "wp"
  refine ⟨a, _, rfl, .inl hS, ?_⟩
  walk_at "wp"
  refine ⟨fun c => ?_, fun c => ?_⟩
  · rw [List.length_map] at c
    exact rIxL_mk hS (atI_getD hk c) q
  · rw [List.length_map] at c
    have e : ns.getD k.toNat 0 = 0 := by
      rw [List.getD_eq_getElem?_getD, List.getElem?_eq_none (by omega)]
      rfl
    rw [e] at q
    exact q

def dg (n : Int) : List Nat := (Str.ofString (toString n)).cps.toList
theorem dg_text (n : Int) : Str.ofString (toString n) = tx (dg n) := (tx_cps _).symm
structure DgOk (n : Int) : Prop where
  all : PySem.NumText.AllDigits (dg n)
  ne : dg n ≠ []
  val : ((PySem.NumText.digitsVal (dg n) : Nat) : Int) = n
  zero : (dg n)[0]? = some 48 → (dg n).length = 1
  len : (dg n).length ≤ 100
  sz : n.natAbs.log2 < 1920
theorem tx_list (l : List Nat) : (tx l).cps.toList = l := by simp [tx]
theorem tx_len (l : List Nat) : (tx l).length = l.length := by simp [tx, Str.length]
theorem dgOk {n : Int} (h0 : 0 ≤ n) (h1 : n < 10 ^ 100) : DgOk n := by
  obtain ⟨l, e, a, b, c, d, f⟩ := num_text h0
  have el : dg n = l := by
    unfold dg
    rw [e, tx_list]
  exact ⟨el ▸ a, el ▸ b, el ▸ c, el ▸ d, by rw [el]; exact f 99 h1, by
    by_cases z : n.natAbs = 0
    · rw [z]; decide
    · refine (Nat.log2_lt z).mpr (Nat.lt_of_lt_of_le (m := 10 ^ 100) (by omega) (by decide +kernel))⟩
def sp_is_figures : Sp := fun vs H Q _ => ∃ (n most : Int), vs = [.str (tx (dg n)), .int most] ∧ DgOk n ∧ 100 ≤ most ∧ ∀ H', Same H H' → Q (.bl true) H'
theorem h_is_figures (T : TF K mg "is_figures" s_is_figures) (m_len : mg "len" = none) (m_all : mg "all" = none) (c_FIGURES : CS mg "FIGURES" "0123456789") : Has P w K mg base 1 "is_figures" ["text", "most"] sp_is_figures := by
  refine T.has sc_is_figures (fun _ _ _ _ _ _ us hl => match us, hl with | [_, _], _ => rfl) (fun vs H Q E h => ?_) (fun f cdv A outer s H vs Q E hr h => ?_)
  · obtain ⟨n, most, rfl, _⟩ := h
    rfl
  obtain ⟨n, most, rfl, d, hm, q⟩ := h
  refine ⟨_, (pss_cons (ps_if (PW.pt (pw_or (pt_cmpR op_lt (pe_callB call_len_str rfl m_len PySem.boot_len (pa_cons (pv 0) pa_nil)) pe_int (nomark _)) (pw_or1 (pt_cmpR op_gt (pe_callB call_len_str rfl m_len PySem.boot_len (pa_cons (pv 0) pa_nil)) (pv 1) (nomark _))))) (pss_one (ps_ret pe_bl)) pss_nil) (pss_cons (ps_if (PW.pt (pw_and (pt_cmpR op_eq (pe_ix ix_str (pv 0) pe_int (fun _ _ => rfl)) pe_str (nomark _)) (pw_and1 (pt_cmpR op_gt (pe_callB call_len_str rfl m_len PySem.boot_len (pa_cons (pv 0) pa_nil)) pe_int (nomark _))))) (pss_one (ps_ret pe_bl)) pss_nil) (pss_one (ps_ret (pe_callB (call_allT rfl) rfl m_all (by decide +kernel) (pa_cons (pe_comp (CompSc.none (own := ["sign"]) (by decide +kernel) (by decide +kernel) rfl (by decide +kernel)) rfl (pi_str (pv 0)) (fun _ _ _ => (pg_name (i := 0) (show (["sign"] : List Str).Nodup from by decide +kernel) rfl (Or.inl rfl) (Or.inr rfl))) (fun _ _ _ => pts_nil) (fun _ _ _ => (pe_cmpR op_in_str (pv 0) (pe_cs rfl c_FIGURES) rfl))) pa_nil)))))), ?_⟩
  have ln := d.len
  have lp : 0 < (dg n).length := List.length_pos_iff.mpr d.ne
  walk_at "wp"
  obtain ⟨c0, r0, e0⟩ : ∃ c r, dg n = c :: r := by
    cases e : dg n with
    | nil => exact absurd e d.ne
    | cons c r => exact ⟨c, r, rfl⟩
  have tl := tx_len (dg n)
  have asc : Asc (tx (dg n)) := by
    unfold Asc
    rw [Array.all_eq_true_iff_forall_mem]
    intro c hc
    have := d.all c (by rw [← tx_list (dg n)]; exact Array.mem_toList_iff.mpr hc)
    exact decide_eq_true (by omega)
  have last : ∃ z, V.str (tx (dg n)) = V.str z ∧ Asc z ∧ CompW (Itc z) (gName 0) tTrue (tOp (fun x y H Q => ∃ i j, x = V.str i ∧ y = V.str j ∧ Q (V.bl !(Builtin.Str.occurrences j i 0 j.length 1).isEmpty) H) (tVar 0) (tC (V.str (Str.ofString "0123456789")))) [Str.ofString "sign"] [] [some (V.str (tx (dg n))), some (V.int most)] H fun x H1 => ∃ a ys, [x] = [V.ref a] ∧ SqL K H1 a ys ∧ (∀ y ∈ ys, y = V.bl true) ∧ Q (V.bl true) H1 := by
    refine ⟨_, rfl, asc, ?_⟩
    obtain ⟨Sv, hSv⟩ : ∃ Sv : St → Prop, Sv = fun σ => ∃ o1, σ = [o1] := ⟨_, rfl⟩
    obtain ⟨Pv, hPv⟩ : ∃ Pv : Addr → Nat → List V → Hp → Prop, Pv = fun D i ys H2 => H D = none ∧ Same H H2 ∧ ∀ y ∈ ys, y = V.bl true := ⟨_, rfl⟩
    refine compW_str Sv Pv (by rw [hSv]; exact ⟨none, rfl⟩) (fun D hD => ?_) (fun D i c ys σ H2 hx hs hD hy h => ?_) (fun D ys H2 hD h => ?_)
    · rw [hPv]
      exact ⟨hD, same_new hD _, fun y hy => nomatch hy⟩
    · rw [hSv] at hs
      rw [hPv] at h
      obtain ⟨o1, rfl⟩ := hs
      obtain ⟨nD, g, hb⟩ := h
      have hc : 48 ≤ c ∧ c ≤ 57 := d.all c (by
        have : c ∈ (tx (dg n)).cps := Array.mem_of_getElem? hx
        rw [← tx_list (dg n)]
        exact Array.mem_toList_iff.mpr this)
      have hi : i < 100 := by
        have := (Array.getElem?_eq_some_iff.mp hx).1
        simp only [Str.length] at tl
        omega
      walk_at "wp"
      refine ⟨_, _, rfl, rfl, ?_⟩
      have hf : (!(Builtin.Str.occurrences (Str.ofString "0123456789") ⟨#[c]⟩ 0 (Str.ofString "0123456789").length 1).isEmpty) = true := by
        rw [StrLaws.found_one]
        refine decide_eq_true ?_
        have el : (Str.ofString "0123456789").cps.toList = [48, 49, 50, 51, 52, 53, 54, 55, 56, 57] := by decide +kernel
        rw [el]
        simp
        omega
      rw [hf]
      refine CompP.mk hD hy (by rw [sizeLine_eq]; omega) (by rw [hSv]; exact ⟨_, rfl⟩) (by
        rw [hPv]
        refine ⟨nD, g.write nD _, fun y hy' => ?_⟩
        rcases List.mem_append.mp hy' with z | z
        · exact hb y z
        · exact List.mem_singleton.mp z)
    · rw [hPv] at h
      obtain ⟨nD, g, hb⟩ := h
      exact ⟨D, ys, rfl, SqL.of hD, hb, q _ g⟩
  refine ⟨_, rfl, by omega, fun c => by omega, fun _ => ⟨_, rfl, by omega, fun c => by omega, fun _ => ?_⟩⟩
  refine ⟨_, _, c0, rfl, rfl, by rw [tx_len]; show _ ≤ 16777216; omega, by rw [tx_list, e0]; exact atI_nat (j := 0) rfl, rfl, _, rfl, fun z0 => ?_, fun _ => last⟩
  have z1 := of_decide_eq_true z0
  have e48 : Str.ofString "0" = ⟨#[48]⟩ := by decide +kernel
  rw [e48] at z1
  have z2 : c0 = 48 := by
    injection z1 with z1
    injection z1 with z1
    simpa using z1
  have l1 := d.zero (by rw [e0, z2]; rfl)
  exact ⟨_, rfl, by omega, fun c => by omega, fun _ => last⟩
def sp_read_number : Sp := fun vs H Q _ => ∃ n : Int, vs = [.str (tx (dg n))] ∧ DgOk n ∧ ∀ H', Same H H' → Q (.int n) H'
theorem h_read_number (T : TF K mg "read_number" s_read_number) (m_int : mg "int" = none) (c_MOST_FIGURES : CI mg "MOST_FIGURES" 100) (G_is_figures : Has P w K mg base 1 "is_figures" ["text", "most"] sp_is_figures) : Has P w K mg base 2 "read_number" ["text"] sp_read_number := by
  refine T.has sc_read_number (fun _ _ _ _ _ _ us hl => match us, hl with | [_], _ => rfl) (fun vs H Q E h => ?_) (fun f cdv A outer s H vs Q E hr h => ?_)
  · obtain ⟨n, rfl, _⟩ := h
    rfl
  obtain ⟨n, rfl, d, q⟩ := h
  refine ⟨_, (pss_cons (ps_if (pt_not (pt_val (pe_def (G_is_figures.mono (by first | decide | omega)) hr (pa_cons (pv 0) (pa_cons (pe_ci rfl c_MOST_FIGURES) pa_nil))) (fun _ => rfl))) (pss_one ps_never) pss_nil) (pss_one (ps_ret (pe_callTy call_int_text rfl m_int (by decide +kernel) (pa_cons (pv 0) pa_nil))))), ?_⟩
  walk_at "wp"
  refine ⟨n, _, rfl, d, by decide, fun H1 g1 => ?_⟩
  walk_at "wp"
  have tl := tx_len (dg n)
  have ln := d.len
  have e := intText_digits (x := tx (dg n)) (by rw [tx_list]; exact d.all) (by rw [tx_list]; exact d.ne) (by omega)
  rw [tx_list, d.val] at e
  exact ⟨_, n, rfl, e, by omega, q _ g1⟩

def inL : List Nat := [105, 110, 32]
def byL : List Nat := [98, 121, 32]
def opL : List Nat := [32, 40]
def cmL : List Nat := [44, 32]
def clL : List Nat := [41]
mutual
def ptx : Pap → List Nat
  | .inn k => inL ++ dg k
  | .par b ps => byL ++ (dg b ++ (opL ++ (ptxs ps ++ clL)))
def ptxs : List Pap → List Nat
  | [] => []
  | p :: ps => ptx p ++ ptxr ps
def ptxr : List Pap → List Nat
  | [] => []
  | p :: ps => cmL ++ (ptx p ++ ptxr ps)
end
mutual
def nums : Pap → List Int
  | .inn k => [k]
  | .par b ps => b :: numss ps
def numss : List Pap → List Int
  | [] => []
  | p :: ps => nums p ++ numss ps
end
def POk (p : Pap) : Prop := ∀ n ∈ nums p, DgOk n
def POks (ps : List Pap) : Prop := ∀ n ∈ numss ps, DgOk n
theorem POks.cons {p : Pap} {ps : List Pap} (h : POks (p :: ps)) : POk p ∧ POks ps := by
  unfold POks numss at h
  exact ⟨fun n hn => h n (by simp [hn]), fun n hn => h n (by simp [hn])⟩
theorem POk.par {b : Int} {ps : List Pap} (h : POk (.par b ps)) : DgOk b ∧ POks ps := by
  unfold POk nums at h
  exact ⟨h b (by simp), fun n hn => h n (by simp [hn])⟩
theorem POk.inn {k : Int} (h : POk (.inn k)) : DgOk k := h k (by simp [nums])
theorem POks.mem : ∀ {ps : List Pap}, POks ps → ∀ p ∈ ps, POk p
  | _ :: _, h, q, hq => by
    rcases List.mem_cons.mp hq with rfl | hq
    · exact h.cons.1
    · exact POks.mem h.cons.2 q hq
mutual
theorem ptx_len : ∀ (p : Pap), POk p → (ptx p).length + 2 ≤ 112 * p.kn
  | .inn k, h => by
    have := h.inn.len
    simp only [ptx, Pap.kn, List.length_append, inL, List.length_cons, List.length_nil]
    omega
  | .par b ps, h => by
    have h1 := h.par.1.len
    have h2 := ptxs_len ps h.par.2
    simp only [ptx, Pap.kn, List.length_append, byL, opL, clL, List.length_cons, List.length_nil]
    omega
theorem ptxs_len : ∀ (ps : List Pap), POks ps → (ptxs ps).length ≤ 112 * Pap.kns ps
  | [], _ => by simp [ptxs]
  | p :: ps, h => by
    have h1 := ptx_len p h.cons.1
    have h2 := ptxr_len ps h.cons.2
    simp only [ptxs, Pap.kns, List.length_append]
    omega
theorem ptxr_len : ∀ (ps : List Pap), POks ps → (ptxr ps).length ≤ 112 * Pap.kns ps
  | [], _ => by simp [ptxr]
  | p :: ps, h => by
    have h1 := ptx_len p h.cons.1
    have h2 := ptxr_len ps h.cons.2
    simp only [ptxr, Pap.kns, List.length_append, cmL, List.length_cons, List.length_nil]
    omega
end
theorem ptxr_flat : ∀ ps : List Pap, ptxr ps = ps.flatMap fun p => cmL ++ ptx p
  | [] => rfl
  | p :: ps => by
    simp only [ptxr, List.flatMap_cons, ptxr_flat ps, List.append_assoc]
theorem glued_cm : ∀ ps : List Pap, Builtin.Str.glued (tx cmL) (ps.map fun p => tx (ptx p)) = tx (ptxs ps)
  | [] => by
    apply str_ext
    simp [Builtin.Str.glued, ptxs, Str.empty, tx]
  | p :: ps => by
    apply str_ext
    show (((ps.map fun p => tx (ptx p)).foldl (fun acc q => acc ++ (tx cmL).cps ++ q.cps) (tx (ptx p)).cps)).toList = _
    rw [glued_fold, tx_list, tx_list, tx_list]
    simp only [ptxs, ptxr_flat, List.flatMap_map, tx_list]
theorem inL_tx : Str.ofString "in " = tx inL := by decide +kernel
theorem byL_tx : Str.ofString "by " = tx byL := by decide +kernel
theorem opL_tx : Str.ofString " (" = tx opL := by decide +kernel
theorem cmL_tx : Str.ofString ", " = tx cmL := by decide +kernel
theorem clL_tx : Str.ofString ")" = tx clL := by decide +kernel
theorem tx_app (k l : List Nat) : tx k ++ tx l = tx (k ++ l) := by
  apply str_ext
  rw [str_app, tx_list, tx_list, tx_list]
theorem sub_at (l y : List Nat) (i : Nat) (hy : y.length ≠ 0) : (decide (i + (tx y).length ≤ (tx l).length) && Builtin.Str.subAt (tx l) (tx y) i) = decide ((l.drop i).take y.length = y) := by
  rw [tx_len, tx_len]
  have e : Builtin.Str.subAt (tx l) (tx y) i = decide ((l.drop i).take y.length = y) := by
    unfold Builtin.Str.subAt
    rw [Bool.eq_iff_iff, decide_eq_true_eq, beq_iff_eq, ← Array.toList_inj, Array.toList_extract, List.extract_eq_take_drop]
    have e1 : i + (tx y).length - i = y.length := by rw [tx_len]; omega
    rw [e1]
    show (List.take y.length (List.drop i (tx l).cps.toList)) = (tx y).cps.toList ↔ _
    rw [tx_list, tx_list]
  rw [e]
  by_cases c : (l.drop i).take y.length = y
  · rw [decide_eq_true c, Bool.and_true, decide_eq_true_eq]
    have := congrArg List.length c
    rw [List.length_take, List.length_drop] at this
    omega
  · rw [decide_eq_false c, Bool.and_false]
theorem slice_at {l : List Nat} {i j : Nat} (h : i ≤ j) (hj : j ≤ l.length) : Txt.slice (tx l) (some (i : Int)) (some (j : Int)) = tx ((l.drop i).take (j - i)) := by
  have := beq_iff_eq.mp (PyProof.Rows.slice_closesL (x := tx l) (i := i) (j := j) (by omega) (by omega) (by rw [tx_len]; omega))
  rw [this, tx_list]
  have e : ((j : Int) - (i : Int)).toNat = j - i := by omega
  rw [Int.toNat_natCast, e]
  rfl

def flds (l : List Nat) (i : Nat) : List (Str × V) := [("text", .str (tx l)), ("place", .int (i : Int))]
theorem fld_text (l : List Nat) (i : Nat) : (flds l i).lookup ("text" : Str) = some (.str (tx l)) := by
  unfold flds
  rfl
theorem fld_place (l : List Nat) (i : Nat) : (flds l i).lookup ("place" : Str) = some (.int (i : Int)) := by
  unfold flds
  rfl
theorem fld_no {l : List Nat} {i : Nat} {m : Str} (h : (m == ("text" : Str)) = false := by decide +kernel) (k : (m == ("place" : Str)) = false := by decide +kernel) : (flds l i).lookup m = none := by
  unfold flds
  simp only [List.lookup, h, k]
theorem fld_put (l : List Nat) (i j : Nat) : putF ("place" : Str) (.int (j : Int)) (flds l i) = flds l j := by
  unfold flds putF
  rw [if_neg (by decide +kernel)]
  unfold putF
  rw [if_pos rfl]
def RdAt (C : Addr) (H : Hp) (a : Addr) (l : List Nat) (i : Nat) : Prop := ∃ dx, H a = some (.ins C dx (flds l i))
structure Rd (C : Addr) (H H' : Hp) (a : Addr) (l : List Nat) (i : Nat) : Prop where
  at_ : RdAt C H' a l i
  same : ∀ b o, b ≠ a → H b = some o → H' b = some o
theorem Rd.upd {C : Addr} {H : Hp} {a dx : Addr} {l : List Nat} {i : Nat} : Rd C H (upd H a (.ins C dx (flds l i))) a l i := ⟨⟨dx, upd_same⟩, fun b o hb e => by rw [upd_ne hb]; exact e⟩
theorem Rd.trans {C : Addr} {H H1 H2 : Hp} {a : Addr} {l : List Nat} {i j : Nat} (g : Rd C H H1 a l i) (h : Rd C H1 H2 a l j) : Rd C H H2 a l j := ⟨h.at_, fun b o hb e => h.same b o hb (g.same b o hb e)⟩
theorem Rd.free {C : Addr} {H H1 : Hp} {a b : Addr} {l : List Nat} {i : Nat} (g : Rd C H H1 a l i) (h : H1 b = none) (hb : b ≠ a) : H b = none := by
  cases e : H b with
  | none => rfl
  | some o => rw [g.same b o hb e] at h; cases h
theorem Rd.new {C : Addr} {H H1 : Hp} {a p : Addr} {l : List Nat} {i : Nat} (g : Rd C H H1 a l i) (h : H1 p = none) (o : HO) : Rd C H (L2.upd H1 p o) a l i := by
  obtain ⟨dx, e⟩ := g.at_
  refine ⟨⟨dx, by rw [upd_ne (ne_of_none e h)]; exact e⟩, fun b o' hb e' => ?_⟩
  have := g.same b o' hb e'
  rw [upd_ne (ne_of_none this h)]
  exact this
theorem Rd.write {C : Addr} {H H1 : Hp} {a D : Addr} {l : List Nat} {i : Nat} (g : Rd C H H1 a l i) (n : H D = none) (h : D ≠ a) (o : HO) : Rd C H (L2.upd H1 D o) a l i := by
  obtain ⟨dx, e⟩ := g.at_
  refine ⟨⟨dx, by rw [upd_ne (Ne.symm h)]; exact e⟩, fun b o' hb e' => ?_⟩
  rw [upd_ne (ne_of_none e' n)]
  exact g.same b o' hb e'
structure RdTx (K : PySem.W.Frag) (C : Addr) : Prop where
  cl : Cls K C
  nT : NoAttr K C "text"
  nP : NoAttr K C "place"
def sp_passes (C : Addr) : Sp := fun vs H Q _ => ∃ (a : Addr) (l y : List Nat) (i : Nat), vs = [.ref a, .str (tx y)] ∧ RdAt C H a l i ∧ l.length ≤ 100000 ∧ i ≤ l.length ∧ y.length ≠ 0 ∧ y.length ≤ 10 ∧ (¬ (l.drop i).take y.length = y → Q (.bl false) H) ∧ ((l.drop i).take y.length = y → ∀ H', Rd C H H' a l (i + y.length) → Q (.bl true) H')
theorem h_passes {C : Addr} (X : RdTx K C) (T : TM K C "passes" "PaperReader.passes" s_PaperReader_passes) (m_len : mg "len" = none) : HasM P w K mg base 1 C "passes" ["self", "signs"] (sp_passes C) := by
  refine T.has sc_PaperReader_passes (fun _ _ _ _ _ _ us hl => match us, hl with | [_, _], _ => rfl) (fun vs H Q E h => ?_) (fun f cdv A outer s H vs Q E hr h => ?_)
  · obtain ⟨a, l, y, i, rfl, _⟩ := h
    rfl
  obtain ⟨a, l, y, i, rfl, ⟨dx, hd⟩, ll, li, y0, y1, q0, q1⟩ := h
  refine ⟨_, (pss_cons (ps_if (pt_not (pt_val (pe_bm PySem.F.plainAttrs_str PySem.F.slot_str_startswith PySem.F.type_str_startswith mt_startsF (pe_fld (pv 0) rfl) (pa_cons (pv 1) (pa_cons (pe_fld (pv 0) rfl) pa_nil))) (fun _ => rfl))) (pss_one (ps_ret pe_bl)) pss_nil) (pss_cons (ps_fldaug (pv 0) (pe_callB call_len_str rfl m_len PySem.boot_len (pa_cons (pv 1) pa_nil)) in_add) (pss_one (ps_ret pe_bl)))), ?_⟩
  walk_at "wp"
  have fi : PySem.fromIndex (tx l).length (i : Int) = i := by
    unfold PySem.fromIndex
    rw [if_neg (by omega)]
    omega
  refine ⟨a, C, dx, _, _, rfl, hd, X.cl, X.nT, fld_text l i, rfl, a, C, dx, _, _, rfl, hd, X.cl, X.nP, fld_place l i, _, _, _, rfl, rfl, ?_⟩
  rw [fi, sub_at l y i y0]
  refine ⟨fun c => q0 (of_decide_eq_false c), fun c => ?_⟩
  have c' : (l.drop i).take y.length = y := by
    rw [Bool.not_eq_false] at c
    exact of_decide_eq_true c
  refine ⟨a, C, dx, _, _, rfl, hd, X.cl, X.nP, fld_place l i, tx y, rfl, by rw [tx_len]; omega, _, _, rfl, rfl, dx, _, hd, by show 2 < 1000; decide, ?_⟩
  have e : (i : Int) + ((tx y).length : Int) = ((i + y.length : Nat) : Int) := by rw [tx_len]; omega
  rw [e, fld_put]
  exact q1 c' _ Rd.upd
def sp_needs (C : Addr) : Sp := fun vs H Q _ => ∃ (a : Addr) (l y : List Nat) (i : Nat), vs = [.ref a, .str (tx y)] ∧ RdAt C H a l i ∧ l.length ≤ 100000 ∧ i ≤ l.length ∧ y.length ≠ 0 ∧ y.length ≤ 10 ∧ (l.drop i).take y.length = y ∧ ∀ H', Rd C H H' a l (i + y.length) → Q .non H'
theorem h_needs {C : Addr} (cl_PaperReader : Cls K C) (T : TM K C "needs" "PaperReader.needs" s_PaperReader_needs) (G_PaperReader_passes : HasM P w K mg base 1 C "passes" ["self", "signs"] (sp_passes C)) : HasM P w K mg base 2 C "needs" ["self", "signs"] (sp_needs C) := by
  refine T.has sc_PaperReader_needs (fun _ _ _ _ _ _ us hl => match us, hl with | [_, _], _ => rfl) (fun vs H Q E h => ?_) (fun f cdv A outer s H vs Q E hr h => ?_)
  · obtain ⟨a, l, y, i, rfl, _⟩ := h
    rfl
  obtain ⟨a, l, y, i, rfl, hd, ll, li, y0, y1, c, q⟩ := h
  have hd' := hd
  obtain ⟨dx, hd⟩ := hd
  refine ⟨_, (pss_one (ps_if (pt_not (pt_val (pe_mth (pv 0) cl_PaperReader (G_PaperReader_passes.mono (by first | decide | omega)) hr (pa_cons (pv 1) pa_nil)) (fun _ => rfl))) (pss_one ps_never) pss_nil)), ?_⟩
  walk_at "wp"
  refine ⟨a, dx, _, rfl, hd, fld_no, a, l, y, i, rfl, hd', ll, li, y0, y1, fun z => absurd c z, fun _ H1 g1 => ?_⟩
  walk_at "wp"
  exact q H1 g1
theorem fig73 {c : Nat} : (Builtin.Str.occurrences (Str.ofString "0123456789") ⟨#[c]⟩ 0 (Str.ofString "0123456789").length 1).isEmpty = false ↔ 48 ≤ c ∧ c ≤ 57 := by
  have h := StrLaws.found_one (Str.ofString "0123456789") c
  have el : (Str.ofString "0123456789").cps.toList = [48, 49, 50, 51, 52, 53, 54, 55, 56, 57] := by decide +kernel
  rw [el] at h
  rw [← Bool.not_eq_true', h, decide_eq_true_eq]
  simp
  omega
def noFig (r : List Nat) : Prop := ∀ c, r[0]? = some c → ¬ (48 ≤ c ∧ c ≤ 57)
def sp_nnum (C : Addr) : Sp := fun vs H Q _ => ∃ (a : Addr) (l r : List Nat) (i : Nat) (n : Int), vs = [.ref a] ∧ RdAt C H a l i ∧ l.length ≤ 100000 ∧ l.drop i = dg n ++ r ∧ DgOk n ∧ noFig r ∧ ∀ H', Rd C H H' a l (i + (dg n).length) → Q (.int n) H'
theorem h_next_number {C : Addr} (X : RdTx K C) (T : TM K C "next_number" "PaperReader.next_number" s_PaperReader_next_number) (m_len : mg "len" = none) (c_FIGURES : CS mg "FIGURES" "0123456789") (G_read_number : Has P w K mg base 2 "read_number" ["text"] sp_read_number) : HasM P w K mg base 3 C "next_number" ["self"] (sp_nnum C) := by
  refine T.has sc_PaperReader_next_number (fun _ _ _ _ _ _ us hl => match us, hl with | [_], _ => rfl) (fun vs H Q E h => ?_) (fun f cdv A outer s H vs Q E hr h => ?_)
  · obtain ⟨a, l, r, i, n, rfl, _⟩ := h
    rfl
  obtain ⟨a, l, r, i, n, rfl, hd, ll, el, dk, nf, q⟩ := h
  have hd' := hd
  obtain ⟨dx, hd⟩ := hd
  refine ⟨_, (pss_cons (ps_set (i := 1) sc_PaperReader_next_number.nd rfl (Or.inl rfl) (pe_fld (pv 0) rfl)) (pss_cons (ps_cut (ps_while PassesOwn.never (PW.pt (pw_and (pt_cmpR op_lt (pe_fld (pv 0) rfl) (pe_callB call_len_str rfl m_len PySem.boot_len (pa_cons (pe_fld (pv 0) rfl) pa_nil)) (nomark _)) (pw_and1 (pt_cmpR op_in_str (pe_ix ix_str (pe_fld (pv 0) rfl) (pe_fld (pv 0) rfl) (fun _ _ => rfl)) (pe_cs rfl c_FIGURES) rfl)))) (pss_one (ps_fldaug (pv 0) pe_int in_add)))) (pss_one (ps_ret (pe_def (G_read_number.mono (by first | decide | omega)) hr (pa_cons (pe_slice sl_str (pe_fld (pv 0) rfl) (po_some (pv 1)) (po_some (pe_fld (pv 0) rfl))) pa_nil)))))), ?_⟩
  walk_at "wp"
  have ld := congrArg List.length el
  rw [List.length_drop, List.length_append] at ld
  have tl := tx_len l
  have n1 := List.length_pos_iff.mpr dk.ne
  have at_ : ∀ j : Nat, (l.drop i)[j]? = l[i + j]? := fun j => by rw [List.getElem?_drop]
  refine ⟨a, C, dx, _, _, rfl, hd, X.cl, X.nP, fld_place l i, ?_⟩
  refine ⟨fun σ H' => σ = [some (.ref a), some (.int (i : Int))] ∧ Rd C H H' a l (i + (dg n).length), ?_, ?_⟩
  · obtain ⟨W, hW⟩ : ∃ W : Nat → St → Hp → Prop, W = fun m σ H' => ∃ j : Nat, σ = [some (.ref a), some (.int (i : Int))] ∧ Rd C H H' a l (i + j) ∧ j ≤ (dg n).length ∧ m = (dg n).length - j := ⟨_, rfl⟩
    refine ⟨W, ⟨_, by rw [hW]; exact ⟨0, rfl, ⟨hd', fun b o _ e => e⟩, Nat.zero_le _, rfl⟩⟩, fun m σ H' h => ?_⟩
    rw [hW] at h
    obtain ⟨j, rfl, g, hj, rfl⟩ := h
    obtain ⟨dy, he⟩ := g.at_
    walk_at "wp"
    refine ⟨a, C, dy, _, _, rfl, he, X.cl, X.nP, fld_place l (i + j), ?_⟩
    walk_at "wp"
    refine ⟨a, C, dy, _, _, rfl, he, X.cl, X.nT, fld_text l (i + j), tx l, rfl, by omega, fun c => ?_, fun c => ?_⟩
    · have c' : i + j < l.length := by omega
      refine ⟨a, C, dy, _, _, rfl, he, X.cl, X.nT, fld_text l (i + j), a, C, dy, _, _, rfl, he, X.cl, X.nP, fld_place l (i + j), _, _, l[i + j], rfl, rfl, by rw [tl]; show _ ≤ 16777216; omega, by rw [tx_list]; exact atI_nat (List.getElem?_eq_getElem c'), _, _, rfl, rfl, ?_⟩
      have gj : (dg n ++ r)[j]? = some l[i + j] := by rw [← el, at_, List.getElem?_eq_getElem c']
      refine ⟨fun z => ⟨_, fun _ _ h => h, a, C, dy, _, _, rfl, he, X.cl, X.nP, fld_place l (i + j), _, _, rfl, rfl, dy, _, he, by show 2 < 1000; decide, (dg n).length - (j + 1), ?_, ?_⟩, fun z => ?_⟩
      · have fg := fig73.mp z
        by_cases k : j < (dg n).length
        · omega
        · have ej : j = (dg n).length := by omega
          have gk : r[0]? = some l[i + j] := by
            rw [List.getElem?_append_right (by omega), show j - (dg n).length = 0 by omega] at gj
            exact gj
          exact absurd fg (nf _ gk)
      · have e : ((i + j : Nat) : Int) + 1 = ((i + (j + 1) : Nat) : Int) := by omega
        rw [e, fld_put, hW]
        have fg := fig73.mp z
        refine ⟨j + 1, rfl, g.trans Rd.upd, ?_, rfl⟩
        by_cases k : j < (dg n).length
        · omega
        · have ej : j = (dg n).length := by omega
          have gk : r[0]? = some l[i + j] := by
            rw [List.getElem?_append_right (by omega), show j - (dg n).length = 0 by omega] at gj
            exact gj
          exact absurd fg (nf _ gk)
      · by_cases k : j < (dg n).length
        · rw [List.getElem?_append_left k] at gj
          exact absurd (fig73.mpr (dk.all _ (List.mem_of_getElem? gj))) z
        · have ej : j = (dg n).length := by omega
          rw [ej] at g
          exact g
    · have ej : j = (dg n).length := by omega
      rw [ej] at g
      exact g
  rintro σ H' ⟨rfl, g⟩
  obtain ⟨dy, he⟩ := g.at_
  walk_at "wp"
  refine ⟨a, C, dy, _, _, rfl, he, X.cl, X.nT, fld_text l _, ?_⟩
  walk_at "wp"
  refine ⟨a, C, dy, _, _, rfl, he, X.cl, X.nP, fld_place l _, _, rfl, tx l, rfl, by rw [tl]; show _ ≤ 16777216; omega, ?_⟩
  have es : Txt.slice (tx l) (some (i : Int)) (some ((i + (dg n).length : Nat) : Int)) = tx (dg n) := by
    rw [slice_at (by omega) (by omega), el]
    have : i + (dg n).length - i = (dg n).length := by omega
    rw [this, List.take_left]
  rw [es]
  exact ⟨n, rfl, dk, fun H2 g2 => q H2 (g.trans ⟨⟨dy, g2 _ _ he⟩, fun b o _ e => g2 b o e⟩)⟩
mutual
theorem papIn_by {N : Addr → Prop} {H H' : Hp} (t1 : ∀ b xs, H b = some (.tup xs) → H' b = some (.tup xs)) (t2 : ∀ b xs, N b → H b = some (.lst xs) → H' b = some (.lst xs)) : ∀ {v : V} {p : Pap}, PapIn K N H v p → PapIn K N H' v p
  | _, _, .inn h => .inn (t1 _ _ h)
  | _, _, .par h hl n hz hs => .par (t1 _ _ h) (t2 _ _ n hl) n hz (papsIn_by t1 t2 hs)
theorem papsIn_by {N : Addr → Prop} {H H' : Hp} (t1 : ∀ b xs, H b = some (.tup xs) → H' b = some (.tup xs)) (t2 : ∀ b xs, N b → H b = some (.lst xs) → H' b = some (.lst xs)) : ∀ {xs : List V} {ps : List Pap}, PapsIn K N H xs ps → PapsIn K N H' xs ps
  | _, _, .nil => .nil
  | _, _, .cons h hs => .cons (papIn_by t1 t2 h) (papsIn_by t1 t2 hs)
end
mutual
theorem papIn_off {N : Addr → Prop} {H : Hp} {D : Addr} (n : H D = none) : ∀ {v : V} {p : Pap}, PapIn K N H v p → PapIn K (fun b => N b ∧ b ≠ D) H v p
  | _, _, .inn h => .inn h
  | _, _, .par h hl nn hz hs => .par h hl ⟨nn, ne_of_none hl n⟩ hz (papsIn_off n hs)
theorem papsIn_off {N : Addr → Prop} {H : Hp} {D : Addr} (n : H D = none) : ∀ {xs : List V} {ps : List Pap}, PapsIn K N H xs ps → PapsIn K (fun b => N b ∧ b ≠ D) H xs ps
  | _, _, .nil => .nil
  | _, _, .cons h hs => .cons (papIn_off n h) (papsIn_off n hs)
end
theorem Rd.tup {C : Addr} {H H' : Hp} {a : Addr} {l : List Nat} {i j : Nat} (g : Rd C H H' a l j) (ha : RdAt C H a l i) (b : Addr) (xs : List V) (e : H b = some (.tup xs)) : H' b = some (.tup xs) := by
  obtain ⟨dx, ha⟩ := ha
  exact g.same b _ (fun k => by rw [k, ha] at e; cases e) e
theorem Rd.lst {C : Addr} {H H' : Hp} {a : Addr} {l : List Nat} {i j : Nat} (g : Rd C H H' a l j) (ha : RdAt C H a l i) (b : Addr) (xs : List V) (e : H b = some (.lst xs)) : H' b = some (.lst xs) := by
  obtain ⟨dx, ha⟩ := ha
  exact g.same b _ (fun k => by rw [k, ha] at e; cases e) e
theorem drop_app {l A B : List Nat} {i : Nat} (h : l.drop i = A ++ B) : l.drop (i + A.length) = B := by
  rw [← List.drop_drop, h, List.drop_left]
theorem ptxr_app : ∀ ps qs : List Pap, ptxr (ps ++ qs) = ptxr ps ++ ptxr qs
  | [], qs => rfl
  | p :: ps, qs => by simp only [List.cons_append, ptxr, ptxr_app ps qs, List.append_assoc]
theorem ptx_head (p : Pap) : ∃ c r, ptx p = c :: r ∧ (c = 105 ∨ c = 98) := by
  cases p with
  | inn k => exact ⟨105, _, by simp only [ptx, inL, List.cons_append]; rfl, .inl rfl⟩
  | par b ps => exact ⟨98, _, by simp only [ptx, byL, List.cons_append]; rfl, .inr rfl⟩
theorem rest_noFig (ps : List Pap) (r : List Nat) : noFig (ptxr ps ++ (clL ++ r)) := fun c e => by
  cases ps with
  | nil =>
    have : c = 41 := by simpa [ptxr, clL] using e.symm
    omega
  | cons p ps =>
    have : c = 44 := by simpa [ptxr, cmL] using e.symm
    omega
def sp_npap (K : PySem.W.Frag) (C : Addr) (d : Nat) : Sp := fun vs H Q _ => ∃ (a : Addr) (l r : List Nat) (i : Nat) (ab : Int) (p : Pap), vs = [.ref a, .int ab] ∧ RdAt C H a l i ∧ l.length ≤ 100000 ∧ l.drop i = ptx p ++ r ∧ POk p ∧ p.kn ≤ 1000 ∧ p.dep < d ∧ 0 ≤ ab ∧ ab + p.dep ≤ 40 ∧ noFig r ∧ ∀ (v : V) (H' : Hp), Rd C H H' a l (i + (ptx p).length) → PapIn K (fun b => H b = none) H' v p → Q v H'
def sp_npaps (K : PySem.W.Frag) (C : Addr) (d : Nat) : Sp := fun vs H Q _ => ∃ (a : Addr) (l r : List Nat) (i : Nat) (ab : Int) (ps : List Pap), vs = [.ref a, .int ab] ∧ RdAt C H a l i ∧ l.length ≤ 100000 ∧ l.drop i = ptxs ps ++ (clL ++ r) ∧ POks ps ∧ Pap.kns ps ≤ 1000 ∧ Pap.deps ps < d ∧ 0 ≤ ab ∧ ab + Pap.deps ps ≤ 40 ∧ ∀ (D : Addr) (xs : List V) (H' : Hp), Rd C H H' a l (i + (ptxs ps).length + 1) → H D = none → H' D = some (.lst xs) → PapsIn K (fun b => H b = none) H' xs ps → Q (.ref D) H'
theorem h_next_papers {C : Addr} {d : Nat} (cl_PaperReader : Cls K C) (T : TM K C "next_papers" "PaperReader.next_papers" s_PaperReader_next_papers) (G_PaperReader_passes : HasM P w K mg base 1 C "passes" ["self", "signs"] (sp_passes C)) (G_PaperReader_needs : HasM P w K mg base 2 C "needs" ["self", "signs"] (sp_needs C)) (G_PaperReader_next_paper : HasM P w K mg base (2 * d + 4) C "next_paper" ["self", "above"] (sp_npap K C d)) : HasM P w K mg base (2 * d + 5) C "next_papers" ["self", "above"] (sp_npaps K C d) := by
  refine T.has sc_PaperReader_next_papers (fun _ _ _ _ _ _ us hl => match us, hl with | [_, _], _ => rfl) (fun vs H Q E h => ?_) (fun f cdv A outer s H vs Q E hr h => ?_)
  · obtain ⟨a, l, r, i, ab, ps, rfl, _⟩ := h
    rfl
  obtain ⟨a, l, r, i, ab, ps, rfl, hd, ll, el, ok, kp, hdp, ab0, ab1, q⟩ := h
  have lp := Nat.le_trans (Pap.kns_len ps) kp
  have hd' := hd
  obtain ⟨dx, hd⟩ := hd
  have ld := congrArg List.length el
  rw [List.length_drop, List.length_append, List.length_append] at ld
  have c1 : clL.length = 1 := rfl
  refine ⟨_, (pss_cons (ps_cut (ps_if (pt_val (pe_mth (pv 0) cl_PaperReader (G_PaperReader_passes.mono (by first | decide | omega)) hr (pa_cons pe_str pa_nil)) (fun _ => rfl)) (pss_one (ps_ret (pe_lst pa_nil))) pss_nil)) (pss_cons (ps_set (i := 2) sc_PaperReader_next_papers.nd rfl (Or.inl rfl) (pe_lst (pa_cons (pe_mth (pv 0) cl_PaperReader (G_PaperReader_next_paper.mono (by first | decide | omega)) hr (pa_cons (pv 1) pa_nil)) pa_nil))) (pss_cons (ps_while PassesOwn.never (pt_val (pe_mth (pv 0) cl_PaperReader (G_PaperReader_passes.mono (by first | decide | omega)) hr (pa_cons pe_str pa_nil)) (fun _ => rfl)) (pss_one (ps_expr (pe_bm PySem.F.plainAttrs_list PySem.F.slot_list_append PySem.F.type_list_append mt_append (pv 2) (pa_cons (pe_mth (pv 0) cl_PaperReader (G_PaperReader_next_paper.mono (by first | decide | omega)) hr (pa_cons (pv 1) pa_nil)) pa_nil))))) (pss_cons (ps_expr (pe_mth (pv 0) cl_PaperReader (G_PaperReader_needs.mono (by first | decide | omega)) hr (pa_cons pe_str pa_nil))) (pss_one (ps_ret (pv 2))))))), ?_⟩
  walk_at "wp"
  refine ⟨fun σ H' => σ = [some (.ref a), some (.int ab), none] ∧ H' = H ∧ ps ≠ [], ?_, ?_⟩
  · walk_at "wp"
    rw [clL_tx]
    refine ⟨a, dx, _, rfl, hd, fld_no, a, l, clL, i, rfl, hd', ll, by omega, by decide, by decide, fun c => ?_, fun c H1 g1 => ?_⟩
    · walk_at "wp"
      intro e
      refine c ?_
      rw [el, e]
      rfl
    · walk_at "wp"
      intro D nD
      cases ps with
      | nil =>
        obtain ⟨dy, h1⟩ := g1.at_
        exact q D [] _ (by simpa [ptxs, clL] using g1.new nD (.lst [])) (g1.free nD fun e => by rw [e, h1] at nD; cases nD) upd_same .nil
      | cons p ps =>
        exfalso
        obtain ⟨ch, rr, e1, e2⟩ := ptx_head p
        rw [el] at c
        simp only [ptxs, e1, List.cons_append, clL] at c
        have : ch = 41 := by simpa using c
        omega
  rintro σ H' ⟨rfl, rfl, ne⟩
  obtain ⟨p, ps', rfl⟩ : ∃ p ps', ps = p :: ps' := by
    cases ps with
    | nil => exact absurd rfl ne
    | cons p ps' => exact ⟨p, ps', rfl⟩
  have okp := ok.cons
  simp only [Pap.deps] at hdp ab1
  simp only [Pap.kns] at kp
  have e0 : l.drop i = ptx p ++ (ptxr ps' ++ (clL ++ r)) := by
    rw [el]
    simp only [ptxs, List.append_assoc]
  walk_at "wp"
  refine ⟨a, dx, _, rfl, hd, fld_no, a, l, _, i, ab, p, rfl, hd', ll, e0, okp.1, by omega, by omega, ab0, by omega, rest_noFig _ _, fun v H1 g1 hv D nD => ?_⟩
  obtain ⟨dy, h1⟩ := g1.at_
  have nDa : D ≠ a := fun e => by rw [e, h1] at nD; cases nD
  have fD := g1.free nD nDa
  have g2 := g1.new nD (.lst [v])
  have hD2 := upd_same (H := H1) (a := D) (o := .lst [v])
  have gD := same_new nD (.lst [v])
  have hv2 : PapIn K (fun b => H' b = none ∧ b ≠ D) (upd H1 D (.lst [v])) v p := (papIn_off nD hv).mono gD
  generalize upd H1 D (.lst [v]) = H2 at g2 hD2 hv2 ⊢
  clear hv gD nD h1 g1
  obtain ⟨W, hW⟩ : ∃ W : Nat → St → Hp → Prop, W = fun m σ H3 => ∃ (k : Nat) (xs : List V), σ = [some (.ref a), some (.int ab), some (.ref D)] ∧ Rd C H' H3 a l (i + (ptxs (p :: ps'.take k)).length) ∧ H3 D = some (.lst xs) ∧ PapsIn K (fun b => H' b = none ∧ b ≠ D) H3 xs (p :: ps'.take k) ∧ k ≤ ps'.length ∧ m = ps'.length - k := ⟨_, rfl⟩
  refine ⟨W, ⟨_, by rw [hW]; exact ⟨0, [v], rfl, by simpa [ptxs, ptxr] using g2, hD2, .cons hv2 .nil, Nat.zero_le _, rfl⟩⟩, fun m σ H3 h => ?_⟩
  rw [hW] at h
  obtain ⟨k, xs, rfl, g3, hD3, hx3, hk, rfl⟩ := h
  have e3 : l.drop (i + (ptxs (p :: ps'.take k)).length) = ptxr (ps'.drop k) ++ (clL ++ r) := by
    refine drop_app ?_
    rw [e0]
    simp only [ptxs, List.append_assoc]
    rw [← List.append_assoc (ptxr (ps'.take k)), ← ptxr_app, List.take_append_drop]
  have hd3 := g3.at_
  obtain ⟨dz, h3⟩ := g3.at_
  have ld3 := congrArg List.length e3
  rw [List.length_drop, List.length_append, List.length_append] at ld3
  walk_at "wp"
  rw [cmL_tx]
  refine ⟨a, dz, _, rfl, h3, fld_no, a, l, cmL, _, rfl, hd3, ll, by omega, by decide, by decide, fun c => ?_, fun c H4 g4 => ?_⟩
  · walk_at "wp"
    have ek : k = ps'.length := by
      rcases Nat.lt_or_ge k ps'.length with z | z
      · exfalso
        refine c ?_
        rw [e3, List.drop_eq_getElem_cons z]
        simp only [ptxr, List.append_assoc]
        exact List.take_left
      · omega
    subst ek
    rw [List.drop_length] at e3
    rw [List.take_length] at e3 g3 hx3 hd3 h3 ld3
    rw [clL_tx]
    have e4 : l.drop (i + (ptxs (p :: ps')).length) = clL ++ r := by rw [e3]; rfl
    refine ⟨a, dz, _, rfl, h3, fld_no, a, l, clL, _, rfl, hd3, ll, by omega, by decide, by decide, by rw [e4]; exact List.take_left, fun H4 g4 => ?_⟩
    exact q D xs H4 (g3.trans g4) fD (g4.lst hd3 _ _ hD3) (papsIn_by (g4.tup hd3) (fun b xs _ e => g4.lst hd3 b xs e) (hx3.imp fun b hb => hb.1))
  · walk_at "wp"
    have hk2 : k < ps'.length := by
      rcases Nat.lt_or_ge k ps'.length with z | z
      · exact z
      · exfalso
        rw [e3, List.drop_eq_nil_of_le z] at c
        simp [ptxr, clL, cmL] at c
    obtain ⟨q0, rest, eq0⟩ : ∃ q0 rest, ps'.drop k = q0 :: rest := ⟨_, _, List.drop_eq_getElem_cons hk2⟩
    have mq : q0 ∈ ps' := List.mem_of_mem_drop (by rw [eq0]; simp)
    have eg : ps'[k]? = some q0 := by
      have := congrArg (fun x => x[0]?) eq0
      simpa using this
    have e4 : l.drop (i + (ptxs (p :: ps'.take k)).length + cmL.length) = ptx q0 ++ (ptxr rest ++ (clL ++ r)) := by
      refine drop_app ?_
      rw [e3, eq0]
      simp only [ptxr, List.append_assoc]
    have hd4 := g4.at_
    obtain ⟨d4, h4⟩ := g4.at_
    have hD4 := g4.lst hd3 _ _ hD3
    have dq := Pap.dep_mem mq
    refine ⟨_, fun _ _ h => h, .inl ⟨rfl, _, SqL.of hD4⟩, a, d4, _, rfl, h4, fld_no, a, l, _, _, ab, q0, rfl, hd4, ll, e4, okp.2.mem q0 mq, by have := Pap.kn_mem mq; omega, by omega, ab0, by omega, rest_noFig _ _, fun v5 H5 g5 hv5 => ?_⟩
    have hD5 := g5.lst hd4 _ _ hD4
    have lx := hx3.len
    rw [List.length_cons, List.length_take] at lx
    rw [List.length_cons] at lp
    refine ⟨D, xs, _, rfl, rfl, hD5, by rw [sizeLine_eq]; omega, ps'.length - (k + 1), by omega, ?_⟩
    rw [hW]
    have et : ps'.take (k + 1) = ps'.take k ++ [q0] := by rw [List.take_add_one, eg]; rfl
    have el5 : i + (ptxs (p :: ps'.take k)).length + cmL.length + (ptx q0).length = i + (ptxs (p :: ps'.take (k + 1))).length := by
      rw [et]
      simp only [ptxs, ptxr_app, ptxr, List.length_append, List.length_nil]
      omega
    have g6 := (g3.trans g4).trans g5
    rw [el5] at g6
    have hx5 := papsIn_by (g5.tup hd4) (fun b xs _ e => g5.lst hd4 b xs e) (papsIn_by (g4.tup hd3) (fun b xs _ e => g4.lst hd3 b xs e) hx3)
    have nn : ∀ b, H4 b = none → H' b = none ∧ b ≠ D := fun b hb => ⟨(g3.trans g4).free hb (fun e => by rw [e, h4] at hb; cases hb), fun e => by rw [e, hD4] at hb; cases hb⟩
    refine ⟨k + 1, xs ++ [v5], rfl, g6.write fD nDa _, upd_same, ?_, hk2, rfl⟩
    rw [et]
    exact (hx5.snoc (hv5.imp nn)).write hD5 fun l hl => hl.2
theorem h_next_paper {C : Addr} {d : Nat} (cl_PaperReader : Cls K C) (T : TM K C "next_paper" "PaperReader.next_paper" s_PaperReader_next_paper) (c_MOST_DEPTH : CI mg "MOST_DEPTH" 40) (G_PaperReader_passes : HasM P w K mg base 1 C "passes" ["self", "signs"] (sp_passes C)) (G_PaperReader_needs : HasM P w K mg base 2 C "needs" ["self", "signs"] (sp_needs C)) (G_PaperReader_next_number : HasM P w K mg base 3 C "next_number" ["self"] (sp_nnum C)) (G_PaperReader_next_papers : HasM P w K mg base (2 * d + 5) C "next_papers" ["self", "above"] (sp_npaps K C d)) : HasM P w K mg base (2 * (d + 1) + 4) C "next_paper" ["self", "above"] (sp_npap K C (d + 1)) := by
  refine T.has sc_PaperReader_next_paper (fun _ _ _ _ _ _ us hl => match us, hl with | [_, _], _ => rfl) (fun vs H Q E h => ?_) (fun f cdv A outer s H vs Q E hr h => ?_)
  · obtain ⟨a, l, r, i, ab, p, rfl, _⟩ := h
    rfl
  obtain ⟨a, l, r, i, ab, p, rfl, hd, ll, el, ok, kp, hdp, ab0, ab1, nf, q⟩ := h
  have hd' := hd
  obtain ⟨dx, hd⟩ := hd
  have ld := congrArg List.length el
  rw [List.length_drop, List.length_append] at ld
  refine ⟨_, (pss_cons (ps_if (pt_val (pe_mth (pv 0) cl_PaperReader (G_PaperReader_passes.mono (by first | decide | omega)) hr (pa_cons pe_str pa_nil)) (fun _ => rfl)) (pss_one (ps_ret (pe_tup (pa_cons pe_str (pa_cons (pe_mth0 (pv 0) cl_PaperReader (G_PaperReader_next_number.mono (by first | decide | omega)) hr) pa_nil))))) pss_nil) (pss_cons (ps_if (pt_cmpR op_eq (pv 1) (pe_ci rfl c_MOST_DEPTH) (nomark _)) (pss_one ps_never) pss_nil) (pss_cons (ps_expr (pe_mth (pv 0) cl_PaperReader (G_PaperReader_needs.mono (by first | decide | omega)) hr (pa_cons pe_str pa_nil))) (pss_cons (ps_set (i := 2) sc_PaperReader_next_paper.nd rfl (Or.inl rfl) (pe_mth0 (pv 0) cl_PaperReader (G_PaperReader_next_number.mono (by first | decide | omega)) hr)) (pss_cons (ps_expr (pe_mth (pv 0) cl_PaperReader (G_PaperReader_needs.mono (by first | decide | omega)) hr (pa_cons pe_str pa_nil))) (pss_one (ps_ret (pe_tup (pa_cons pe_str (pa_cons (pv 2) (pa_cons (pe_mth (pv 0) cl_PaperReader (G_PaperReader_next_papers.mono (by first | decide | omega)) hr (pa_cons (pe_op op_add (pv 1) pe_int) pa_nil)) pa_nil))))))))))), ?_⟩
  walk_at "wp"
  rw [inL_tx]
  have lp : 3 ≤ (ptx p).length := by
    cases p <;> simp [ptx, inL, byL] <;> omega
  refine ⟨a, dx, _, rfl, hd, fld_no, a, l, inL, i, rfl, hd', ll, by omega, by decide, by decide, fun c => ?_, fun c H1 g1 => ?_⟩
  · cases p with
    | inn k =>
      exfalso
      refine c ?_
      rw [el]
      simp only [ptx, List.append_assoc]
      exact List.take_left
    | par b ps =>
      obtain ⟨okb, oks⟩ := ok.par
      simp only [Pap.dep] at hdp ab1
      simp only [Pap.kn] at kp
      have e1 : l.drop i = byL ++ (dg b ++ (opL ++ (ptxs ps ++ (clL ++ r)))) := by
        rw [el]
        simp only [ptx, List.append_assoc]
      walk_at "wp"
      refine ⟨fun z => by omega, fun _ => ⟨a, dx, _, rfl, hd, fld_no, ?_⟩⟩
      rw [byL_tx]
      refine ⟨a, l, byL, i, rfl, hd', ll, by omega, by decide, by decide, by rw [e1]; exact List.take_left, fun H1 g1 => ?_⟩
      have hd1 := g1.at_
      obtain ⟨d1, h1⟩ := g1.at_
      have e2 := drop_app e1
      refine ⟨a, d1, _, rfl, h1, fld_no, a, l, _, _, b, rfl, hd1, ll, e2, okb, (fun c e => by
        have : c = 32 := by simpa [opL] using e.symm
        omega), fun H2 g2 => ?_⟩
      have hd2 := g2.at_
      obtain ⟨d2, h2⟩ := g2.at_
      have e3 := drop_app e2
      have l3 := congrArg List.length e3
      rw [List.length_drop, List.length_append] at l3
      have o2 : opL.length = 2 := rfl
      refine ⟨a, d2, _, rfl, h2, fld_no, ?_⟩
      rw [opL_tx]
      refine ⟨a, l, opL, _, rfl, hd2, ll, by omega, by decide, by decide, by rw [e3]; exact List.take_left, fun H3 g3 => ?_⟩
      have hd3 := g3.at_
      obtain ⟨d3, h3⟩ := g3.at_
      have e4 := drop_app e3
      refine ⟨a, d3, _, rfl, h3, fld_no, a, l, r, _, ab + 1, ps, rfl, hd3, ll, e4, oks, by omega, by omega, by omega, by omega, fun D xs H4 g4 nD hD hx t nt => ?_⟩
      have G3 := (g1.trans g2).trans g3
      have nn : ∀ x, H3 x = none → H x = none := fun x hx => G3.free hx fun e => by rw [e, h3] at hx; cases hx
      have G4 := G3.trans g4
      have gt := same_new nt (.tup [V.str "parted", .int b, .ref D])
      have ep : i + byL.length + (dg b).length + opL.length + (ptxs ps).length + 1 = i + (ptx (.par b ps)).length := by
        simp only [ptx, List.length_append, clL, List.length_cons, List.length_nil]
        omega
      rw [ep] at G4
      refine q (.ref t) _ (G4.new nt _) (.par upd_same (gt _ _ hD) (nn D nD) ?_ ((hx.imp nn).mono gt))
      have := hx.len
      have := Pap.kns_len ps
      omega
  · cases p with
    | par b ps =>
      exfalso
      rw [el] at c
      simp [ptx, inL, byL] at c
    | inn k =>
      have e1 : l.drop i = inL ++ (dg k ++ r) := by
        rw [el]
        simp only [ptx, List.append_assoc]
      walk_at "wp"
      have hd1 := g1.at_
      obtain ⟨d1, h1⟩ := g1.at_
      refine ⟨a, d1, _, rfl, h1, fld_no, a, l, r, _, k, rfl, hd1, ll, drop_app e1, ok.inn, nf, fun H2 g2 t nt => ?_⟩
      have ep : i + inL.length + (dg k).length = i + (ptx (.inn k)).length := by
        simp only [ptx, List.length_append]
        omega
      have G2 := g1.trans g2
      rw [ep] at G2
      exact q (.ref t) _ (G2.new nt _) (.inn upd_same)
theorem h_next_zero {C : Addr} (T : TM K C "next_paper" "PaperReader.next_paper" s_PaperReader_next_paper) : HasM P w K mg base 4 C "next_paper" ["self", "above"] (sp_npap K C 0) := by
  refine T.has (k := 3) sc_PaperReader_next_paper (fun _ _ _ _ _ _ us hl => match us, hl with | [_, _], _ => rfl) (fun vs H Q E h => ?_) (fun f cdv A outer s H vs Q E hr h => ?_)
  · obtain ⟨_, _, _, _, _, _, _, _, _, _, _, _, h, _⟩ := h
    exact absurd h (Nat.not_lt_zero _)
  · obtain ⟨_, _, _, _, _, _, _, _, _, _, _, _, h, _⟩ := h
    exact absurd h (Nat.not_lt_zero _)
theorem h_next_all {C : Addr} (cl : Cls K C) (T1 : TM K C "next_paper" "PaperReader.next_paper" s_PaperReader_next_paper) (T2 : TM K C "next_papers" "PaperReader.next_papers" s_PaperReader_next_papers) (c_MOST_DEPTH : CI mg "MOST_DEPTH" 40) (G1 : HasM P w K mg base 1 C "passes" ["self", "signs"] (sp_passes C)) (G2 : HasM P w K mg base 2 C "needs" ["self", "signs"] (sp_needs C)) (G3 : HasM P w K mg base 3 C "next_number" ["self"] (sp_nnum C)) : ∀ d : Nat, HasM P w K mg base (2 * d + 4) C "next_paper" ["self", "above"] (sp_npap K C d)
  | 0 => h_next_zero T1
  | d + 1 => h_next_paper cl T1 c_MOST_DEPTH G1 G2 G3 (h_next_papers cl T2 G1 G2 (h_next_all cl T1 T2 c_MOST_DEPTH G1 G2 G3 d))

def sp_rinit (C : Addr) : Sp := fun vs H Q _ => ∃ (x dx : Addr) (l : List Nat), vs = [.ref x, .str (tx l)] ∧ H x = some (.ins C dx []) ∧ ∀ H', Rd C H H' x l 0 → Q .non H'
theorem h_rinit {C : Addr} (X : RdTx K C) (T : TM K C "__init__" "PaperReader.__init__" s_PaperReader___init__) : HasM P w K mg base 1 C "__init__" ["self", "text"] (sp_rinit C) := by
  refine T.has sc_PaperReader___init__ (fun _ _ _ _ _ _ us hl => match us, hl with | [_, _], _ => rfl) (fun vs H Q E h => ?_) (fun f cdv A outer s H vs Q E hr h => ?_)
  · obtain ⟨x, dx, l, rfl, _⟩ := h
    rfl
  obtain ⟨x, dx, l, rfl, hx, q⟩ := h
  refine ⟨_, (pss_cons (ps_fld (pv 0) (pv 1) rfl) (pss_one (ps_fld (pv 0) pe_int rfl))), ?_⟩
  walk_at "wp"
  refine ⟨x, C, dx, [], rfl, hx, X.cl, X.nT, by decide, x, C, dx, _, rfl, upd_same, X.cl, X.nP, by show 1 < 1000; decide, ?_⟩
  have e : putF ("place" : Str) (.int 0) (putF ("text" : Str) (.str (tx l)) []) = flds l 0 := by
    show (if ("text" : Str) = "place" then _ else (("text" : Str), V.str (tx l)) :: putF ("place" : Str) (.int 0) []) = _
    rw [if_neg (by decide +kernel)]
    rfl
  rw [e]
  refine q _ ⟨⟨dx, upd_same⟩, fun b o hb e => ?_⟩
  rw [upd_ne hb, upd_ne hb]
  exact e
def sp_rpaper (K : PySem.W.Frag) : Sp := fun vs H Q _ => ∃ p : Pap, vs = [.str (tx (ptx p))] ∧ POk p ∧ p.kn ≤ 800 ∧ p.dep ≤ 40 ∧ ∀ (v : V) (H' : Hp), Same H H' → PapIn K (fun b => H b = none) H' v p → Q v H'
theorem h_read_paper {C : Addr} (X : RdTx K C) (cl_PaperReader : Cls K C) (mk_PaperReader : PySem.W.makesIn K C = true) (kc_PaperReader : PySem.W.keepIn K (.ref C) = true) (mg_PaperReader : mg "PaperReader" = some (.ref C)) (T : TF K mg "read_paper" s_read_paper) (m_len : mg "len" = none) (G_PaperReader___init__ : HasM P w K mg base 1 C "__init__" ["self", "text"] (sp_rinit C)) (G_PaperReader_next_paper : HasM P w K mg base (2 * 41 + 4) C "next_paper" ["self", "above"] (sp_npap K C 41)) : Has P w K mg base 87 "read_paper" ["text"] (sp_rpaper K) := by
  refine T.has sc_read_paper (fun _ _ _ _ _ _ us hl => match us, hl with | [_], _ => rfl) (fun vs H Q E h => ?_) (fun f cdv A outer s H vs Q E hr h => ?_)
  · obtain ⟨p, rfl, _⟩ := h
    rfl
  obtain ⟨p, rfl, ok, kp, dp, q⟩ := h
  refine ⟨_, (pss_cons (ps_set (i := 1) sc_read_paper.nd rfl (Or.inl rfl) (pe_mk (G_PaperReader___init__.mono (by first | decide | omega)) mk_PaperReader kc_PaperReader hr rfl mg_PaperReader (pa_cons (pv 0) pa_nil))) (pss_cons (ps_set (i := 2) sc_read_paper.nd rfl (Or.inl rfl) (pe_mth (pv 1) cl_PaperReader (G_PaperReader_next_paper.mono (by first | decide | omega)) hr (pa_cons pe_int pa_nil))) (pss_cons (ps_if (pt_cmpR op_ne (pe_fld (pv 1) rfl) (pe_callB call_len_str rfl m_len PySem.boot_len (pa_cons (pv 0) pa_nil)) (nomark _)) (pss_one ps_never) pss_nil) (pss_one (ps_ret (pv 2)))))), ?_⟩
  have lp := ptx_len p ok
  walk_at "wp"
  intro x dx nx ndx hne
  refine ⟨x, dx, ptx p, rfl, upd_same, fun H1 g1 => ⟨rfl, ?_⟩⟩
  have hd1 := g1.at_
  obtain ⟨d1, h1⟩ := g1.at_
  walk_at "wp"
  refine ⟨x, d1, _, rfl, h1, fld_no, x, ptx p, [], 0, 0, p, rfl, hd1, by omega, by simp, ok, by omega, by omega, by decide, by omega, (fun c e => by simp at e), fun v H2 g2 hv => ?_⟩
  obtain ⟨d2, h2⟩ := g2.at_
  have S1 : Same H H1 := fun b o e => g1.same b o (ne_of_none e nx) (by rw [upd_ne (ne_of_none e nx), upd_ne (ne_of_none e ndx)]; exact e)
  have S2 : Same H H2 := fun b o e => g2.same b o (ne_of_none e nx) (S1 b o e)
  walk_at "wp"
  refine ⟨x, C, d2, _, _, rfl, h2, X.cl, X.nP, fld_place _ _, ?_⟩
  walk_at "wp"
  refine ⟨tx (ptx p), rfl, by rw [tx_len]; omega, ?_⟩
  rw [tx_len]
  refine ⟨fun c => absurd rfl c, fun _ => q v H2 S2 (hv.imp fun b hb => S1.free hb)⟩
def sp_shown (K : PySem.W.Frag) (d : Nat) : Sp := fun vs H Q _ => ∃ (v : V) (p : Pap), vs = [v] ∧ PapIn K anyL H v p ∧ POk p ∧ p.kn ≤ 800 ∧ p.dep < d ∧ ∀ H', Same H H' → Q (.str (tx (ptx p))) H'
theorem comp_txs {d : Nat} {D : Addr} {xs : List V} {ps : List Pap} {own : List Str} {fr : List Nat} {σ : St} {H : Hp} {Q : VK} (hD : H D = some (.lst xs)) (hx : PapsIn K anyL H xs ps) (ok : POks ps) (kp : Pap.kns ps ≤ 800) (dp : Pap.deps ps < d) (hst : st0 own fr σ = [none]) (hq : ∀ (F : Addr) (H' : Hp), Same H H' → H F = none → H' F = some (.lst ((ps.map fun p => tx (ptx p)).map V.str)) → Q (.ref F) H') :
    CompW (Itl K D) (gName 0) tTrue (tCall (sp_shown K d) [] E0 (tCons (tVar 0) tNil)) own fr σ H Q := by
  have ln := Pap.kns_len ps
  have lx := hx.len
  obtain ⟨Sv, hSv⟩ : ∃ Sv : St → Prop, Sv = fun σ => ∃ o1, σ = [o1] := ⟨_, rfl⟩
  obtain ⟨Pv, hPv⟩ : ∃ Pv : Addr → Nat → List V → Hp → Prop, Pv = fun D2 i ys H2 => H D2 = none ∧ Same H H2 ∧ ys = ((ps.take i).map fun p => tx (ptx p)).map V.str := ⟨_, rfl⟩
  refine compW_list (xs := xs) Sv Pv (by rw [hSv, hst]; exact ⟨none, rfl⟩) (fun D2 hD2 => ?_) (fun D2 i ys H2 hD2 h => ?_) (fun D2 i x ys σ H2 hx' hi hs hD2 hy h => ?_) (fun D2 ys H2 hD2 h => ?_)
  · rw [hPv]
    exact ⟨hD2, same_new hD2 _, rfl⟩
  · rw [hPv] at h
    exact SqL.of (h.2.1 _ _ hD)
  · rw [hSv] at hs
    rw [hPv] at h
    obtain ⟨o1, rfl⟩ := hs
    obtain ⟨nD2, g, rfl⟩ := h
    obtain ⟨p, ep, hp⟩ := hx.at hx'
    have mp := List.mem_of_getElem? ep
    have k1 := Pap.kn_mem mp
    have k2 := Pap.dep_mem mp
    walk_at "wp"
    refine ⟨x, p, rfl, hp.mono g, ok.mem p mp, by omega, by omega, fun H3 g3 => ?_⟩
    refine CompP.mk (g3 _ _ hD2) hy (by rw [sizeLine_eq]; omega) (by rw [hSv]; exact ⟨_, rfl⟩) (by
      rw [hPv]
      refine ⟨nD2, (g.trans g3).write nD2 _, ?_⟩
      rw [List.take_add_one, ep]
      simp)
  · rw [hPv] at h
    obtain ⟨nD2, g, rfl⟩ := h
    rw [lx, List.take_length] at hD2
    exact hq D2 H2 g nD2 hD2
theorem fold_txs : ∀ (ps : List Pap) (k : Nat), POks ps → (ps.map fun p => tx (ptx p)).foldl (· + ·.length + (tx cmL).length) k ≤ k + 112 * Pap.kns ps
  | [], k, _ => by simp
  | p :: ps, k, h => by
    have h1 := ptx_len p h.cons.1
    have h2 := fold_txs ps (k + (tx (ptx p)).length + (tx cmL).length) h.cons.2
    have h3 : cmL.length = 2 := rfl
    rw [List.map_cons, List.foldl_cons]
    simp only [Pap.kns]
    simp only [tx_len] at h2 ⊢
    omega
theorem join_txs {ps : List Pap} (ok : POks ps) (kp : Pap.kns ps ≤ 800) : (ps.map fun p => tx (ptx p)).toArray.foldl (· + ·.length + (tx cmL).length) 0 ≤ 16777216 ∧ (Builtin.Str.glued (tx cmL) (ps.map fun p => tx (ptx p))).length ≤ 16777216 := by
  have ln := Pap.kns_len ps
  constructor
  · rw [List.foldl_toArray]
    have := fold_txs ps 0 ok
    omega
  · rw [glued_cm, tx_len]
    have := ptxs_len ps ok
    omega
theorem eE : Str.empty = tx [] := rfl
theorem h_shown_paper (T : TF K mg "shown_paper" s_shown_paper) : ∀ d : Nat, Has P w K mg base (d + 1) "shown_paper" ["paper"] (sp_shown K d) := by
  intro d
  induction d with
  | zero =>
    refine T.has sc_shown_paper (fun _ _ _ _ _ _ us hl => match us, hl with | [_], _ => rfl) (fun vs H Q E h => ?_) (fun f cdv A outer s H vs Q E hr h => ?_)
    · obtain ⟨_, _, _, _, _, _, h, _⟩ := h
      exact absurd h (Nat.not_lt_zero _)
    · obtain ⟨_, _, _, _, _, _, h, _⟩ := h
      exact absurd h (Nat.not_lt_zero _)
  | succ d ih =>
  have G_shown_paper := ih
  refine T.has sc_shown_paper (fun _ _ _ _ _ _ us hl => match us, hl with | [_], _ => rfl) (fun vs H Q E h => ?_) (fun f cdv A outer s H vs Q E hr h => ?_)
  · obtain ⟨v, p, rfl, _⟩ := h
    rfl
  obtain ⟨v, p, rfl, hv, ok, kp, dp, q⟩ := h
  refine ⟨_, (pss_cons (ps_set (i := 1) sc_shown_paper.nd rfl (Or.inl rfl) (pe_ix ix_tup (pv 0) pe_int (fun _ _ => rfl))) (pss_cons (ps_if (pt_cmpR op_eq (pe_ix ix_tup (pv 0) pe_int (fun _ _ => rfl)) pe_str (nomark _)) (pss_one (ps_ret (pe_join (pj_cons pe_str (pj_cons (pe_fmt (pv 1)) pj_nil))))) pss_nil) (pss_cons (ps_set (i := 2) sc_shown_paper.nd rfl (Or.inl rfl) (pe_bm PySem.F.plainAttrs_str PySem.F.slot_str_join PySem.F.type_str_join mt_join pe_str (pa_cons (pe_comp (CompSc.none (own := ["below"]) (by decide +kernel) (by decide +kernel) rfl (by decide +kernel)) rfl (pi_list (pe_ix ix_tup (pv 0) pe_int (fun _ _ => rfl))) (fun _ _ _ => (pg_name (i := 0) (show (["below"] : List Str).Nodup from by decide +kernel) rfl (Or.inl rfl) (Or.inr rfl))) (fun _ _ _ => pts_nil) (fun _ _ _ => (pe_def (G_shown_paper.mono (by first | decide | omega)) hr (pa_cons (pv 0) pa_nil)))) pa_nil))) (pss_one (ps_ret (pe_join (pj_cons pe_str (pj_cons (pe_fmt (pv 1)) (pj_cons pe_str (pj_cons (pe_fmt (pv 2)) (pj_cons pe_str pj_nil))))))))))), ?_⟩
  cases hv with
  | @inn b0 k hb =>
    have hT : SqT K H b0 [.str "in", .int k] := SqT.of hb
    have dk := ok.inn
    have l1 := dk.len
    have e1 : Str.empty ++ tx inL = tx inL := by rw [eE, tx_app]; rfl
    have e2 : tx inL ++ tx (dg k) = tx (ptx (.inn k)) := by rw [tx_app]; simp only [ptx]
    have l2 : (ptx (.inn k)).length ≤ 1000 := by simp only [ptx, List.length_append, inL, List.length_cons, List.length_nil]; omega
    walk_at "wp"
    refine ⟨_, _, _, .int k, rfl, rfl, hT, rfl, _, _, _, .str "in", rfl, rfl, hT, rfl, rfl, _, rfl, fun _ => ?_, fun c => absurd (decide_eq_true rfl) c⟩
    rw [inL_tx]
    refine ⟨_, rfl, by rw [e1, tx_len]; decide, .inl ⟨k, rfl, dk.sz, _, rfl, ?_⟩⟩
    rw [dg_text, e1, e2, tx_len]
    exact ⟨by omega, by omega, q H (Same.refl H)⟩
  | @par b0 l bb zs ps hb hl _ lz hs =>
    have hT : SqT K H b0 [.str "parted", .int bb, .ref l] := SqT.of hb
    obtain ⟨okb, oks⟩ := ok.par
    simp only [Pap.dep] at dp
    simp only [Pap.kn] at kp
    have l1 := okb.len
    have l2 := ptxs_len ps oks
    have e1 : Str.empty ++ tx byL = tx byL := by rw [eE, tx_app]; rfl
    have e5 : tx byL ++ tx (dg bb) ++ tx opL ++ tx (ptxs ps) ++ tx clL = tx (ptx (.par bb ps)) := by
      rw [tx_app, tx_app, tx_app, tx_app]
      simp only [ptx, List.append_assoc]
    walk_at "wp"
    refine ⟨_, _, _, .int bb, rfl, rfl, hT, rfl, _, _, _, .str "parted", rfl, rfl, hT, rfl, rfl, _, rfl, fun c => absurd (of_decide_eq_true c) (by decide +kernel), fun _ => ⟨rfl, _, _, _, .ref l, rfl, rfl, hT, rfl, _, rfl, ⟨_, SqL.of hl⟩, ?_⟩⟩
    refine comp_txs hl hs oks (by omega) (by omega) rfl fun F H1 g1 nF hF => ?_
    have jt := join_txs oks (by omega : Pap.kns ps ≤ 800)
    rw [cmL_tx, byL_tx, opL_tx, clL_tx]
    refine ⟨_, F, _, rfl, rfl, SqL.of hF, jt.1, jt.2, ?_⟩
    rw [glued_cm]
    have b3 : byL.length = 3 := rfl
    have o2 : opL.length = 2 := rfl
    have c1 : clL.length = 1 := rfl
    refine ⟨_, rfl, by rw [e1, tx_len]; decide, .inl ⟨bb, rfl, okb.sz, _, rfl, ?_⟩⟩
    rw [dg_text, e1]
    refine ⟨by rw [tx_app, tx_len, List.length_append]; omega, _, rfl, by rw [tx_app, tx_app, tx_len, List.length_append, List.length_append]; omega, .inr ⟨_, rfl, by rw [tx_len]; omega, _, rfl, ?_⟩⟩
    refine ⟨by rw [tx_app, tx_app, tx_app, tx_len, List.length_append, List.length_append, List.length_append]; omega, _, rfl, ?_⟩
    rw [e5, tx_len]
    have l5 : (ptx (.par bb ps)).length ≤ 100000 := by
      simp only [ptx, List.length_append]
      omega
    exact ⟨by omega, by omega, q H1 g1⟩
theorem h_law_text (T : TF K mg "_law_text" s_law_text) (m_str : mg "str" = none) : ∀ d : Nat, Has P w K mg base (d + 1) "_law_text" ["paper"] (sp_shown K d) := by
  intro d
  induction d with
  | zero =>
    refine T.has sc_law_text (fun _ _ _ _ _ _ us hl => match us, hl with | [_], _ => rfl) (fun vs H Q E h => ?_) (fun f cdv A outer s H vs Q E hr h => ?_)
    · obtain ⟨_, _, _, _, _, _, h, _⟩ := h
      exact absurd h (Nat.not_lt_zero _)
    · obtain ⟨_, _, _, _, _, _, h, _⟩ := h
      exact absurd h (Nat.not_lt_zero _)
  | succ d ih =>
  have G_law_text := ih
  refine T.has sc_law_text (fun _ _ _ _ _ _ us hl => match us, hl with | [_], _ => rfl) (fun vs H Q E h => ?_) (fun f cdv A outer s H vs Q E hr h => ?_)
  · obtain ⟨v, p, rfl, _⟩ := h
    rfl
  obtain ⟨v, p, rfl, hv, ok, kp, dp, q⟩ := h
  refine ⟨_, (pss_cons (ps_if (pt_cmpR op_eq (pe_ix ix_tup (pv 0) pe_int (fun _ _ => rfl)) pe_str (nomark _)) (pss_one (ps_ret (pe_op op_add_str pe_str (pe_callTy call_str_int rfl m_str (by decide +kernel) (pa_cons (pe_ix ix_tup (pv 0) pe_int (fun _ _ => rfl)) pa_nil))))) pss_nil) (pss_one (ps_ret (pe_op op_add_str (pe_op op_add_str (pe_op op_add_str (pe_op op_add_str pe_str (pe_callTy call_str_int rfl m_str (by decide +kernel) (pa_cons (pe_ix ix_tup (pv 0) pe_int (fun _ _ => rfl)) pa_nil))) pe_str) (pe_bm PySem.F.plainAttrs_str PySem.F.slot_str_join PySem.F.type_str_join mt_join pe_str (pa_cons (pe_comp (CompSc.none (own := ["one"]) (by decide +kernel) (by decide +kernel) rfl (by decide +kernel)) rfl (pi_list (pe_ix ix_tup (pv 0) pe_int (fun _ _ => rfl))) (fun _ _ _ => (pg_name (i := 0) (show (["one"] : List Str).Nodup from by decide +kernel) rfl (Or.inl rfl) (Or.inr rfl))) (fun _ _ _ => pts_nil) (fun _ _ _ => (pe_def (G_law_text.mono (by first | decide | omega)) hr (pa_cons (pv 0) pa_nil)))) pa_nil))) pe_str)))), ?_⟩
  cases hv with
  | @inn b0 k hb =>
    have hT : SqT K H b0 [.str "in", .int k] := SqT.of hb
    have dk := ok.inn
    have l1 := dk.len
    have e2 : tx inL ++ tx (dg k) = tx (ptx (.inn k)) := by rw [tx_app]; simp only [ptx]
    have i3 : inL.length = 3 := rfl
    walk_at "wp"
    refine ⟨_, _, _, .str "in", rfl, rfl, hT, rfl, rfl, _, rfl, fun _ => ⟨_, _, _, .int k, rfl, rfl, hT, rfl, k, rfl, dk.sz, ?_⟩, fun c => absurd (decide_eq_true rfl) c⟩
    rw [inL_tx, dg_text]
    refine ⟨_, _, rfl, rfl, by rw [tx_len, tx_len]; omega, ?_⟩
    rw [e2]
    exact q H (Same.refl H)
  | @par b0 l bb zs ps hb hl _ lz hs =>
    have hT : SqT K H b0 [.str "parted", .int bb, .ref l] := SqT.of hb
    obtain ⟨okb, oks⟩ := ok.par
    simp only [Pap.dep] at dp
    simp only [Pap.kn] at kp
    have l1 := okb.len
    have l2 := ptxs_len ps oks
    have e5 : tx byL ++ tx (dg bb) ++ tx opL ++ tx (ptxs ps) ++ tx clL = tx (ptx (.par bb ps)) := by
      rw [tx_app, tx_app, tx_app, tx_app]
      simp only [ptx, List.append_assoc]
    walk_at "wp"
    refine ⟨_, _, _, .str "parted", rfl, rfl, hT, rfl, rfl, _, rfl, fun c => absurd (of_decide_eq_true c) (by decide +kernel), fun _ => ⟨_, _, _, .int bb, rfl, rfl, hT, rfl, bb, rfl, okb.sz, ?_⟩⟩
    rw [byL_tx, opL_tx, clL_tx, cmL_tx, dg_text]
    have b3 : byL.length = 3 := rfl
    have o2 : opL.length = 2 := rfl
    have c1 : clL.length = 1 := rfl
    refine ⟨_, _, rfl, rfl, by rw [tx_len, tx_len]; omega, _, _, rfl, rfl, by rw [tx_app, tx_len, tx_len, List.length_append]; omega, rfl, _, _, _, .ref l, rfl, rfl, hT, rfl, _, rfl, ⟨_, SqL.of hl⟩, ?_⟩
    refine comp_txs hl hs oks (by omega) (by omega) rfl fun F H1 g1 nF hF => ?_
    have jt := join_txs oks (by omega : Pap.kns ps ≤ 800)
    refine ⟨_, F, _, rfl, rfl, SqL.of hF, jt.1, jt.2, ?_⟩
    rw [glued_cm]
    refine ⟨_, _, rfl, rfl, by rw [tx_app, tx_app, tx_len, tx_len, List.length_append, List.length_append]; omega, _, _, rfl, rfl, by rw [tx_app, tx_app, tx_app, tx_len, tx_len, List.length_append, List.length_append, List.length_append]; omega, ?_⟩
    rw [e5]
    exact q H1 g1
def sp_copy (K : PySem.W.Frag) (d : Nat) : Sp := fun vs H Q _ => ∃ (v : V) (p : Pap), vs = [v] ∧ PapIn K anyL H v p ∧ p.kn ≤ 800 ∧ p.dep < d ∧ ∀ (v' : V) (H' : Hp), Same H H' → PapIn K (fun b => H b = none) H' v' p → Q v' H'
theorem h_law_copy (T : TF K mg "_law_copy" s_law_copy) : ∀ d : Nat, Has P w K mg base (d + 1) "_law_copy" ["paper"] (sp_copy K d) := by
  intro d
  induction d with
  | zero =>
    refine T.has sc_law_copy (fun _ _ _ _ _ _ us hl => match us, hl with | [_], _ => rfl) (fun vs H Q E h => ?_) (fun f cdv A outer s H vs Q E hr h => ?_)
    · obtain ⟨_, _, _, _, _, h, _⟩ := h
      exact absurd h (Nat.not_lt_zero _)
    · obtain ⟨_, _, _, _, _, h, _⟩ := h
      exact absurd h (Nat.not_lt_zero _)
  | succ d ih =>
  have G_law_copy := ih
  refine T.has sc_law_copy (fun _ _ _ _ _ _ us hl => match us, hl with | [_], _ => rfl) (fun vs H Q E h => ?_) (fun f cdv A outer s H vs Q E hr h => ?_)
  · obtain ⟨v, p, rfl, _⟩ := h
    rfl
  obtain ⟨v, p, rfl, hv, kp, dp, q⟩ := h
  refine ⟨_, (pss_cons (ps_if (pt_cmpR op_eq (pe_ix ix_tup (pv 0) pe_int (fun _ _ => rfl)) pe_str (nomark _)) (pss_one (ps_ret (pe_tup (pa_cons pe_str (pa_cons (pe_ix ix_tup (pv 0) pe_int (fun _ _ => rfl)) pa_nil))))) pss_nil) (pss_one (ps_ret (pe_tup (pa_cons pe_str (pa_cons (pe_ix ix_tup (pv 0) pe_int (fun _ _ => rfl)) (pa_cons (pe_comp (CompSc.none (own := ["one"]) (by decide +kernel) (by decide +kernel) rfl (by decide +kernel)) rfl (pi_list (pe_ix ix_tup (pv 0) pe_int (fun _ _ => rfl))) (fun _ _ _ => (pg_name (i := 0) (show (["one"] : List Str).Nodup from by decide +kernel) rfl (Or.inl rfl) (Or.inr rfl))) (fun _ _ _ => pts_nil) (fun _ _ _ => (pe_def (G_law_copy.mono (by first | decide | omega)) hr (pa_cons (pv 0) pa_nil)))) pa_nil))))))), ?_⟩
  cases hv with
  | @inn b0 k hb =>
    have hT : SqT K H b0 [.str "in", .int k] := SqT.of hb
    walk_at "wp"
    refine ⟨_, _, _, .str "in", rfl, rfl, hT, rfl, rfl, _, rfl, fun _ => ⟨_, _, _, .int k, rfl, rfl, hT, rfl, fun t nt => ?_⟩, fun c => absurd (decide_eq_true rfl) c⟩
    exact q (.ref t) _ (same_new nt _) (.inn upd_same)
  | @par b0 l bb zs ps hb hl _ lz hs =>
    have hT : SqT K H b0 [.str "parted", .int bb, .ref l] := SqT.of hb
    simp only [Pap.dep] at dp
    simp only [Pap.kn] at kp
    have ln := Pap.kns_len ps
    have lx := hs.len
    walk_at "wp"
    refine ⟨_, _, _, .str "parted", rfl, rfl, hT, rfl, rfl, _, rfl, fun c => absurd (of_decide_eq_true c) (by decide +kernel), fun _ => ⟨_, _, _, .int bb, rfl, rfl, hT, rfl, _, _, _, .ref l, rfl, rfl, hT, rfl, _, rfl, ⟨_, SqL.of hl⟩, ?_⟩⟩
    obtain ⟨Sv, hSv⟩ : ∃ Sv : St → Prop, Sv = fun σ => ∃ o1, σ = [o1] := ⟨_, rfl⟩
    obtain ⟨Pv, hPv⟩ : ∃ Pv : Addr → Nat → List V → Hp → Prop, Pv = fun D2 i ys H2 => H D2 = none ∧ Same H H2 ∧ PapsIn K (fun b => H b = none ∧ b ≠ D2) H2 ys (ps.take i) := ⟨_, rfl⟩
    refine compW_list (xs := zs) Sv Pv (by rw [hSv]; exact ⟨none, rfl⟩) (fun D2 hD2 => ?_) (fun D2 i ys H2 hD2 h => ?_) (fun D2 i x ys σ H2 hx' hi hs2 hD2 hy h => ?_) (fun D2 ys H2 hD2 h => ?_)
    · rw [hPv]
      exact ⟨hD2, same_new hD2 _, .nil⟩
    · rw [hPv] at h
      exact SqL.of (h.2.1 _ _ hl)
    · rw [hSv] at hs2
      rw [hPv] at h
      obtain ⟨o1, rfl⟩ := hs2
      obtain ⟨nD2, g, hy2⟩ := h
      obtain ⟨p, ep, hp⟩ := hs.at hx'
      have mp := List.mem_of_getElem? ep
      have k1 := Pap.kn_mem mp
      have k2 := Pap.dep_mem mp
      walk_at "wp"
      refine ⟨x, p, rfl, hp.mono g, by omega, by omega, fun v5 H3 g3 hv5 => ?_⟩
      have hD3 := g3 _ _ hD2
      refine CompP.mk hD3 hy (by rw [sizeLine_eq]; omega) (by rw [hSv]; exact ⟨_, rfl⟩) (by
        rw [hPv]
        refine ⟨nD2, (g.trans g3).write nD2 _, ?_⟩
        rw [List.take_add_one, ep]
        exact ((hy2.mono g3).snoc (hv5.imp fun b hb => ⟨g.free hb, fun e => by rw [e, hD2] at hb; cases hb⟩)).write hD3 fun l hl => hl.2)
    · rw [hPv] at h
      obtain ⟨nD2, g, hy2⟩ := h
      rw [lx, List.take_length] at hy2
      walk_at "wp"
      intro t nt
      have gt := same_new nt (.tup [V.str "parted", .int bb, .ref D2])
      have := hy2.len
      exact q (.ref t) _ (g.trans gt) (.par upd_same (gt _ _ hD2) nD2 (by omega) ((hy2.imp fun b hb => hb.1).mono gt))
theorem deps_snoc (p : Pap) : ∀ ps : List Pap, Pap.deps (ps ++ [p]) = max (Pap.deps ps) p.dep
  | [] => by simp [Pap.deps]
  | q :: ps => by
    simp only [List.cons_append, Pap.deps, deps_snoc p ps]
    omega
def sp_depth (K : PySem.W.Frag) (d : Nat) : Sp := fun vs H Q _ => ∃ (v : V) (p : Pap), vs = [v] ∧ PapIn K anyL H v p ∧ p.kn ≤ 800 ∧ p.dep < d ∧ Q (.int p.dep) H
theorem h_law_depth (T : TF K mg "_law_depth" s_law_depth) (m_max : mg "max" = none) : ∀ d : Nat, Has P w K mg base (d + 1) "_law_depth" ["paper"] (sp_depth K d) := by
  intro d
  induction d with
  | zero =>
    refine T.has sc_law_depth (fun _ _ _ _ _ _ us hl => match us, hl with | [_], _ => rfl) (fun vs H Q E h => ?_) (fun f cdv A outer s H vs Q E hr h => ?_)
    · obtain ⟨_, _, _, _, _, h, _⟩ := h
      exact absurd h (Nat.not_lt_zero _)
    · obtain ⟨_, _, _, _, _, h, _⟩ := h
      exact absurd h (Nat.not_lt_zero _)
  | succ d ih =>
  have G_law_depth := ih
  refine T.has sc_law_depth (fun _ _ _ _ _ _ us hl => match us, hl with | [_], _ => rfl) (fun vs H Q E h => ?_) (fun f cdv A outer s H vs Q E hr h => ?_)
  · obtain ⟨v, p, rfl, _⟩ := h
    rfl
  obtain ⟨v, p, rfl, hv, kp, dp, q⟩ := h
  refine ⟨_, (pss_cons (ps_if (pt_cmpR op_eq (pe_ix ix_tup (pv 0) pe_int (fun _ _ => rfl)) pe_str (nomark _)) (pss_one (ps_ret pe_int)) pss_nil) (pss_cons (ps_set (i := 1) sc_law_depth.nd rfl (Or.inl rfl) pe_int) (pss_cons (ps_for PassesOwn.never rfl (pi_list (pe_ix ix_tup (pv 0) pe_int (fun _ _ => rfl))) (pg_name (i := 2) sc_law_depth.nd rfl (Or.inl rfl)) (pss_one (ps_set (i := 1) sc_law_depth.nd rfl (Or.inl rfl) (pe_callB (call_max2 rfl) rfl m_max (by decide +kernel) (pa_cons (pv 1) (pa_cons (pe_def (G_law_depth.mono (by first | decide | omega)) hr (pa_cons (pv 2) pa_nil)) pa_nil)))))) (pss_one (ps_ret (pe_op op_add (pv 1) pe_int)))))), ?_⟩
  cases hv with
  | @inn b0 k hb =>
    have hT : SqT K H b0 [.str "in", .int k] := SqT.of hb
    walk_at "wp"
    refine ⟨_, _, _, .str "in", rfl, rfl, hT, rfl, rfl, _, rfl, fun _ => q, fun c => absurd (decide_eq_true rfl) c⟩
  | @par b0 l bb zs ps hb hl _ lz hs =>
    have hT : SqT K H b0 [.str "parted", .int bb, .ref l] := SqT.of hb
    simp only [Pap.dep] at dp q
    simp only [Pap.kn] at kp
    have lx := hs.len
    walk_at "wp"
    refine ⟨_, _, _, .str "parted", rfl, rfl, hT, rfl, rfl, _, rfl, fun c => absurd (of_decide_eq_true c) (by decide +kernel), fun _ => ⟨_, _, _, .ref l, rfl, rfl, hT, rfl, _, rfl, ⟨_, SqL.of hl⟩, ?_⟩⟩
    obtain ⟨W, hW⟩ : ∃ W : Nat → St → Hp → Prop, W = fun i σ H2 => ∃ o1 : Option V, σ = [some (.ref b0), some (.int (Pap.deps (ps.take i) : Nat)), o1] ∧ H2 = H := ⟨_, rfl⟩
    refine forW_list (xs := zs) W ?_ (fun i σ H2 _ z => ?_) (fun i x σ H2 hx z => ?_) (fun σ H2 z => ?_)
    · rw [hW]
      exact ⟨none, rfl, rfl⟩
    · rw [hW] at z
      obtain ⟨_, _, rfl⟩ := z
      exact SqL.of hl
    · rw [hW] at z
      obtain ⟨o1, rfl, rfl⟩ := z
      obtain ⟨p, ep, hp⟩ := hs.at hx
      have mp := List.mem_of_getElem? ep
      have k1 := Pap.kn_mem mp
      have k2 := Pap.dep_mem mp
      walk_at "wp"
      refine ⟨x, p, rfl, hp, by omega, by omega, _, _, rfl, ?_⟩
      rw [hW]
      have e : (if (p.dep : Int) > (Pap.deps (ps.take i) : Nat) then (p.dep : Int) else (Pap.deps (ps.take i) : Nat)) = ((Pap.deps (ps.take (i + 1)) : Nat) : Int) := by
        rw [List.take_add_one, ep]
        show _ = ((Pap.deps (ps.take i ++ [p]) : Nat) : Int)
        rw [deps_snoc]
        split <;> omega
      rw [e]
      exact ⟨_, rfl, rfl⟩
    · rw [hW] at z
      obtain ⟨o1, rfl, rfl⟩ := z
      rw [lx, List.take_length]
      walk_at "wp"
      exact q
theorem compW_zip {a b : Addr} {xs ys : List V} {n : Nat} {g : TG} {tt : TT} {te : TE} {own : List Str} {fr : List Nat} {σ : St} {H : Hp} {Q : VK} (Sv : St → Prop) (Pv : Addr → Nat → List V → Hp → Prop) (hn : min xs.length ys.length = n) (hS : Sv (st0 own fr σ))
    (h0 : ∀ D, H D = none → Pv D 0 [] (upd H D (.lst []))) (hl : ∀ D i vs H', H' D = some (.lst vs) → Pv D i vs H' → SqL K H' a xs ∧ SqL K H' b ys)
    (hs : ∀ D i u v T vs σ H', xs[i]? = some u → ys[i]? = some v → i < n → H' T = none → Sv σ → H' D = some (.lst vs) → vs.length ≤ i → Pv D i vs H' → g (.ref T) σ (upd H' T (.tup [u, v])) fun σ2 H2 => tt σ2 H2 fun b H3 => if b = true then te σ2 H3 fun y H4 => CompP Sv Pv D i σ2 y H4 else CompN Sv Pv D (i + 1) σ2 H3)
    (hd : ∀ D vs H', H' D = some (.lst vs) → Pv D n vs H' → Q (.ref D) H') : CompW (Itz K a b n) g tt te own fr σ H Q := by
  intro D hD
  refine ⟨fun i m σ H => m = n - i ∧ i ≤ n ∧ CompN Sv Pv D i σ H, ⟨_, rfl, Nat.zero_le _, hS, [], upd_same, Nat.le_refl _, h0 D hD⟩, ?_⟩
  rintro i m σ1 H1 ⟨rfl, hi, hs1, vs, hy, hy2, p⟩
  obtain ⟨qa, qb⟩ := hl D i vs H1 hy p
  by_cases hlt : i < n
  · refine .inr ⟨⟨hlt, xs, ys, qa, qb, hn⟩, CompN Sv Pv D (i + 1), fun σ' H' p' => ⟨n - (i + 1), by omega, rfl, hlt, p'⟩, fun x H' y => ?_⟩
    obtain ⟨T, u, v, nT, rfl, rfl, f1, f2⟩ := y
    exact hs D i u v T vs σ1 H1 (f1 xs qa) (f2 ys qb) hlt nT hs1 hy hy2 p
  · have e : i = n := by omega
    subst e
    exact .inl ⟨⟨rfl, xs, ys, qa, qb, hn⟩, hd D vs H1 hy p⟩
def sp_alike (K : PySem.W.Frag) (d : Nat) : Sp := fun vs H Q _ => ∃ (v u : V) (p : Pap), vs = [v, u] ∧ PapIn K anyL H v p ∧ PapIn K anyL H u p ∧ p.kn ≤ 800 ∧ p.dep < d ∧ ∀ H', Same H H' → Q (.bl true) H'
theorem h_law_alike (T : TF K mg "_law_alike" s_law_alike) (m_len : mg "len" = none) (m_isinstance : mg "isinstance" = none) (m_tuple : mg "tuple" = none) (m_str : mg "str" = none) (m_int : mg "int" = none) (m_bool : mg "bool" = none) (m_list : mg "list" = none) (m_all : mg "all" = none) (m_zip : mg "zip" = none) : ∀ d : Nat, Has P w K mg base (d + 1) "_law_alike" ["told", "due"] (sp_alike K d) := by
  intro d
  induction d with
  | zero =>
    refine T.has sc_law_alike (fun _ _ _ _ _ _ us hl => match us, hl with | [_, _], _ => rfl) (fun vs H Q E h => ?_) (fun f cdv A outer s H vs Q E hr h => ?_)
    · obtain ⟨_, _, _, _, _, _, _, h, _⟩ := h
      exact absurd h (Nat.not_lt_zero _)
    · obtain ⟨_, _, _, _, _, _, _, h, _⟩ := h
      exact absurd h (Nat.not_lt_zero _)
  | succ d ih =>
  have G_law_alike := ih
  refine T.has sc_law_alike (fun _ _ _ _ _ _ us hl => match us, hl with | [_, _], _ => rfl) (fun vs H Q E h => ?_) (fun f cdv A outer s H vs Q E hr h => ?_)
  · obtain ⟨v, u, p, rfl, _⟩ := h
    rfl
  obtain ⟨v, u, p, rfl, hv, hu, kp, dp, q⟩ := h
  refine ⟨_, (pss_cons (ps_cut (ps_if (PW.pt (pw_or (pt_not (pt_val (pe_callB call_isI rfl m_isinstance (by decide +kernel) (pa_cons (pv 0) (pa_cons (pe_bltn (v := .ty "tuple") rfl m_tuple (by decide +kernel) rfl) pa_nil))) (fun _ => rfl))) (pw_or (pt_cmpR op_ne (pe_callB call_len_seq rfl m_len PySem.boot_len (pa_cons (pv 0) pa_nil)) (pe_callB call_len_seq rfl m_len PySem.boot_len (pa_cons (pv 1) pa_nil)) (nomark _)) (pw_or (pt_not (pt_val (pe_callB call_isI rfl m_isinstance (by decide +kernel) (pa_cons (pe_ix ix_tup (pv 0) pe_int (fun _ _ => rfl)) (pa_cons (pe_bltn (v := .ty "str") rfl m_str (by decide +kernel) rfl) pa_nil))) (fun _ => rfl))) (pw_or1 (pt_cmpR op_ne (pe_ix ix_tup (pv 0) pe_int (fun _ _ => rfl)) (pe_ix ix_tup (pv 1) pe_int (fun _ _ => rfl)) (nomark _))))))) (pss_one (ps_ret pe_bl)) pss_nil)) (pss_cons (ps_cut (ps_if (PW.pt (pw_or (pt_not (pt_val (pe_callB call_isI rfl m_isinstance (by decide +kernel) (pa_cons (pe_ix ix_tup (pv 0) pe_int (fun _ _ => rfl)) (pa_cons (pe_bltn (v := .ty "int") rfl m_int (by decide +kernel) rfl) pa_nil))) (fun _ => rfl))) (pw_or (pt_val (pe_callB call_isI rfl m_isinstance (by decide +kernel) (pa_cons (pe_ix ix_tup (pv 0) pe_int (fun _ _ => rfl)) (pa_cons (pe_bltn (v := .ty "bool") rfl m_bool (by decide +kernel) rfl) pa_nil))) (fun _ => rfl)) (pw_or1 (pt_cmpR op_ne (pe_ix ix_tup (pv 0) pe_int (fun _ _ => rfl)) (pe_ix ix_tup (pv 1) pe_int (fun _ _ => rfl)) (nomark _)))))) (pss_one (ps_ret pe_bl)) pss_nil)) (pss_cons (ps_if (pt_cmpR op_eq (pe_ix ix_tup (pv 1) pe_int (fun _ _ => rfl)) pe_str (nomark _)) (pss_one (ps_ret pe_bl)) pss_nil) (pss_cons (ps_if (PW.pt (pw_or (pt_not (pt_val (pe_callB call_isI rfl m_isinstance (by decide +kernel) (pa_cons (pe_ix ix_tup (pv 0) pe_int (fun _ _ => rfl)) (pa_cons (pe_bltn (v := .ty "list") rfl m_list (by decide +kernel) rfl) pa_nil))) (fun _ => rfl))) (pw_or1 (pt_cmpR op_ne (pe_callB call_len_seq rfl m_len PySem.boot_len (pa_cons (pe_ix ix_tup (pv 0) pe_int (fun _ _ => rfl)) pa_nil)) (pe_callB call_len_seq rfl m_len PySem.boot_len (pa_cons (pe_ix ix_tup (pv 1) pe_int (fun _ _ => rfl)) pa_nil)) (nomark _))))) (pss_one (ps_ret pe_bl)) pss_nil) (pss_one (ps_ret (pe_callB (call_allT rfl) rfl m_all (by decide +kernel) (pa_cons (pe_comp (CompSc.none (own := ["one", "other"]) (by decide +kernel) (by decide +kernel) rfl (by decide +kernel)) rfl (pi_zip rfl m_zip (pe_ix ix_tup (pv 0) pe_int (fun _ _ => rfl)) (pe_ix ix_tup (pv 1) pe_int (fun _ _ => rfl))) (fun _ _ _ => (show PG _ _ (gTup K 2 (gCons (gName 0) (gCons (gName 1) gNil))) from pg_tup (n := 2) rfl (pgs_cons (pg_name (i := 0) (show (["one", "other"] : List Str).Nodup from by decide +kernel) rfl (Or.inl rfl) (Or.inr rfl)) (pgs_cons (pg_name (i := 1) (show (["one", "other"] : List Str).Nodup from by decide +kernel) rfl (Or.inl rfl) (Or.inr rfl)) pgs_nil)))) (fun _ _ _ => pts_nil) (fun _ _ _ => (pe_def (G_law_alike.mono (by first | decide | omega)) hr (pa_cons (pv 0) (pa_cons (pv 1) pa_nil))))) pa_nil)))))))), ?_⟩
  cases hv with
  | @inn b0 k hb =>
    have hT : SqT K H b0 [.str "in", .int k] := SqT.of hb
    cases hu with
    | @inn b1 k1 hb1 =>
    have hU : SqT K H b1 [.str "in", .int k] := SqT.of hb1
    walk_at "wp"
    refine ⟨fun σ H' => σ = [some (.ref b0), some (.ref b1)] ∧ H' = H, ?_, ?_⟩
    · walk_at "wp"
      refine ⟨_, _, _, true, rfl, .tup hb, rfl, _, rfl, (fun c => nomatch c), fun _ => ⟨b0, _, rfl, .inr hT, b1, _, rfl, .inr hU, fun c => absurd rfl c, fun _ => ?_⟩⟩
      refine ⟨_, _, _, .str "in", rfl, rfl, hT, rfl, _, _, _, true, rfl, .str _, rfl, _, rfl, (fun c => nomatch c), fun _ => ⟨_, _, _, .str "in", rfl, rfl, hT, rfl, _, _, _, .str "in", rfl, rfl, hU, rfl, rfl, _, rfl, fun c => absurd c (by simp), fun _ => rfl⟩⟩
    rintro σ H' ⟨rfl, rfl⟩
    walk_at "wp"
    refine ⟨fun σ H2 => σ = [some (.ref b0), some (.ref b1)] ∧ H2 = H', ?_, ?_⟩
    · walk_at "wp"
      refine ⟨_, _, _, .int k, rfl, rfl, hT, rfl, _, _, _, true, rfl, .int _, rfl, _, rfl, (fun c => nomatch c), fun _ => ⟨_, _, _, .int k, rfl, rfl, hT, rfl, _, _, _, false, rfl, .int _, rfl, _, rfl, (fun c => nomatch c), fun _ => ⟨_, _, _, .int k, rfl, rfl, hT, rfl, _, _, _, .int k, rfl, rfl, hU, rfl, rfl, _, rfl, fun c => absurd c (by simp), fun _ => rfl⟩⟩⟩
    rintro σ H2 ⟨rfl, rfl⟩
    walk_at "wp"
    exact ⟨_, _, _, .str "in", rfl, rfl, hU, rfl, rfl, _, rfl, fun _ => q H2 (Same.refl H2), fun c => absurd (decide_eq_true rfl) c⟩
  | @par b0 l bb zs ps hb hl _ lz hs =>
    have hT : SqT K H b0 [.str "parted", .int bb, .ref l] := SqT.of hb
    cases hu with
    | @par b1 l1 bb1 zs1 ps1 hb1 hl1 _ lz1 hs1 =>
    have hU : SqT K H b1 [.str "parted", .int bb, .ref l1] := SqT.of hb1
    simp only [Pap.dep] at dp
    simp only [Pap.kn] at kp
    walk_at "wp"
    refine ⟨fun σ H' => σ = [some (.ref b0), some (.ref b1)] ∧ H' = H, ?_, ?_⟩
    · walk_at "wp"
      refine ⟨_, _, _, true, rfl, .tup hb, rfl, _, rfl, (fun c => nomatch c), fun _ => ⟨b0, _, rfl, .inr hT, b1, _, rfl, .inr hU, fun c => absurd rfl c, fun _ => ?_⟩⟩
      refine ⟨_, _, _, .str "parted", rfl, rfl, hT, rfl, _, _, _, true, rfl, .str _, rfl, _, rfl, (fun c => nomatch c), fun _ => ⟨_, _, _, .str "parted", rfl, rfl, hT, rfl, _, _, _, .str "parted", rfl, rfl, hU, rfl, rfl, _, rfl, fun c => absurd c (by simp), fun _ => rfl⟩⟩
    rintro σ H' ⟨rfl, rfl⟩
    walk_at "wp"
    refine ⟨fun σ H2 => σ = [some (.ref b0), some (.ref b1)] ∧ H2 = H', ?_, ?_⟩
    · walk_at "wp"
      refine ⟨_, _, _, .int bb, rfl, rfl, hT, rfl, _, _, _, true, rfl, .int _, rfl, _, rfl, (fun c => nomatch c), fun _ => ⟨_, _, _, .int bb, rfl, rfl, hT, rfl, _, _, _, false, rfl, .int _, rfl, _, rfl, (fun c => nomatch c), fun _ => ⟨_, _, _, .int bb, rfl, rfl, hT, rfl, _, _, _, .int bb, rfl, rfl, hU, rfl, rfl, _, rfl, fun c => absurd c (by simp), fun _ => rfl⟩⟩⟩
    rintro σ H2 ⟨rfl, rfl⟩
    walk_at "wp"
    have lx := hs.len
    have lx1 := hs1.len
    have lk := Pap.kns_len ps
    refine ⟨_, _, _, .str "parted", rfl, rfl, hU, rfl, rfl, _, rfl, fun c => absurd (of_decide_eq_true c) (by decide +kernel), fun _ => ⟨_, _, _, .ref l, rfl, rfl, hT, rfl, _, _, _, true, rfl, .lst hl, rfl, _, rfl, (fun c => nomatch c), fun _ => ⟨_, _, _, .ref l, rfl, rfl, hT, rfl, l, zs, rfl, .inl (SqL.of hl), _, _, _, .ref l1, rfl, rfl, hU, rfl, l1, zs1, rfl, .inl (SqL.of hl1), fun c => absurd (by omega) c, fun _ => ?_⟩⟩⟩
    refine ⟨_, _, _, .ref l, rfl, rfl, hT, rfl, _, _, _, .ref l1, rfl, rfl, hU, rfl, l, l1, zs, zs1, rfl, rfl, SqL.of hl, SqL.of hl1, ?_⟩
    have em : min zs.length zs1.length = ps.length := by omega
    rw [em]
    obtain ⟨Sv, hSv⟩ : ∃ Sv : St → Prop, Sv = fun σ => ∃ o1 o2, σ = [o1, o2] := ⟨_, rfl⟩
    obtain ⟨Pv, hPv⟩ : ∃ Pv : Addr → Nat → List V → Hp → Prop, Pv = fun D i ys H3 => H2 D = none ∧ Same H2 H3 ∧ ∀ y ∈ ys, y = V.bl true := ⟨_, rfl⟩
    refine compW_zip (xs := zs) (ys := zs1) Sv Pv em (by rw [hSv]; exact ⟨none, none, rfl⟩) (fun D hD => ?_) (fun D i ys H3 hD h => ?_) (fun D i x y T ys σ H3 hx hy hi nT hs2 hD hv h => ?_) (fun D ys H3 hD h => ?_)
    · rw [hPv]
      exact ⟨hD, same_new hD _, fun y hy => nomatch hy⟩
    · rw [hPv] at h
      exact ⟨SqL.of (h.2.1 _ _ hl), SqL.of (h.2.1 _ _ hl1)⟩
    · rw [hSv] at hs2
      rw [hPv] at h
      obtain ⟨o1, o2, rfl⟩ := hs2
      obtain ⟨nD, g, hb'⟩ := h
      obtain ⟨p, ep, hp⟩ := hs.at hx
      obtain ⟨p1, ep1, hp1⟩ := hs1.at hy
      rw [ep] at ep1
      cases ep1
      have mp := List.mem_of_getElem? ep
      have k1 := Pap.kn_mem mp
      have k2 := Pap.dep_mem mp
      have gT := same_new nT (.tup [x, y])
      have hT3 := upd_same (H := H3) (a := T) (o := .tup [x, y])
      have hD4 := gT _ _ hD
      have G := g.trans gT
      generalize upd H3 T (.tup [x, y]) = H4 at gT hT3 hD4 G ⊢
      refine ⟨T, _, rfl, SqT.of hT3, rfl, ?_⟩
      walk_at "wp"
      refine ⟨x, y, p, rfl, hp.mono G, hp1.mono G, by omega, by omega, fun H5 g5 => ?_⟩
      refine CompP.mk (g5 _ _ hD4) hv (by rw [sizeLine_eq]; omega) (by rw [hSv]; exact ⟨_, _, rfl⟩) (by
        rw [hPv]
        refine ⟨nD, (G.trans g5).write nD _, fun y hy' => ?_⟩
        rcases List.mem_append.mp hy' with z | z
        · exact hb' y z
        · exact List.mem_singleton.mp z)
    · rw [hPv] at h
      obtain ⟨nD, g, hb'⟩ := h
      exact ⟨D, ys, rfl, SqL.of hD, hb', q H3 g⟩
mutual
theorem papIn_uniq {N : Addr → Prop} {H : Hp} : ∀ {v : V} {p q : Pap}, PapIn K N H v p → PapIn K N H v q → p = q
  | _, _, _, .inn h, h2 => by
    cases h2 with
    | inn k => rw [h] at k; cases k; rfl
    | par k => rw [h] at k; cases k
  | _, _, _, .par h hl _ _ hs, h2 => by
    cases h2 with
    | inn k => rw [h] at k; cases k
    | par k kl _ _ ks =>
      rw [h] at k
      cases k
      rw [hl] at kl
      cases kl
      rw [papsIn_uniq hs ks]
theorem papsIn_uniq {N : Addr → Prop} {H : Hp} : ∀ {xs : List V} {ps qs : List Pap}, PapsIn K N H xs ps → PapsIn K N H xs qs → ps = qs
  | _, _, _, .nil, h2 => by cases h2; rfl
  | _, _, _, .cons h hs, h2 => by
    cases h2 with
    | cons k ks => rw [papIn_uniq h k, papsIn_uniq hs ks]
end
def sp_emptied (K : PySem.W.Frag) : Sp := fun vs H Q _ => ∃ (N : Addr → Prop) (v : V) (b : Int) (ps : List Pap), vs = [v] ∧ PapIn K N H v (.par b ps) ∧ Pap.kns ps ≤ 800 ∧ ∀ H', (∀ x o, H x = some o → ¬ N x → H' x = some o) → Q .non H'
theorem h_law_emptied (T : TF K mg "_law_emptied" s_law_emptied) : Has P w K mg base 1 "_law_emptied" ["paper"] (sp_emptied K) := by
  refine T.has sc_law_emptied (fun _ _ _ _ _ _ us hl => match us, hl with | [_], _ => rfl) (fun vs H Q E h => ?_) (fun f cdv A outer s H vs Q E hr h => ?_)
  · obtain ⟨N, v, b, ps, rfl, _⟩ := h
    rfl
  obtain ⟨N, v, b, ps, rfl, hv, kp, q⟩ := h
  refine ⟨_, (pss_cons (ps_for PassesOwn.never rfl (pi_list (pe_ix ix_tup (pv 0) pe_int (fun _ _ => rfl))) (pg_name (i := 1) sc_law_emptied.nd rfl (Or.inl rfl)) (pss_one (ps_if (pt_cmpR op_eq (pe_ix ix_tup (pv 1) pe_int (fun _ _ => rfl)) pe_str (nomark _)) (pss_one (ps_expr (pe_bm0 PySem.F.plainAttrs_list PySem.F.slot_list_clear PySem.F.type_list_clear mt_clear (pe_ix ix_tup (pv 1) pe_int (fun _ _ => rfl))))) pss_nil))) (pss_one (ps_expr (pe_bm0 PySem.F.plainAttrs_list PySem.F.slot_list_clear PySem.F.type_list_clear mt_clear (pe_ix ix_tup (pv 0) pe_int (fun _ _ => rfl)))))), ?_⟩
  cases hv with
  | @par b0 l bb zs ps hb hl hN lz hs =>
  have hT : SqT K H b0 [.str "parted", .int b, .ref l] := SqT.of hb
  walk_at "wp"
  refine ⟨_, _, _, .ref l, rfl, rfl, hT, rfl, l, rfl, ⟨_, SqL.of hl⟩, ?_⟩
  obtain ⟨W, hW⟩ : ∃ W : Nat → St → Hp → Prop, W = fun i σ H2 => ∃ o1 : Option V, σ = [some (.ref b0), o1] ∧ H2 l = some (.lst zs) ∧ (∀ x ys, H x = some (.tup ys) → H2 x = some (.tup ys)) ∧ (∀ x ys, H x = some (.lst ys) → ∃ ys', H2 x = some (.lst ys')) ∧ ∀ x o, H x = some o → ¬ N x → H2 x = some o := ⟨_, rfl⟩
  refine forW_list (xs := zs) W ?_ (fun i σ H2 _ z => ?_) (fun i x σ H2 hx z => ?_) (fun σ H2 z => ?_)
  · rw [hW]
    exact ⟨none, rfl, hl, fun _ _ e => e, fun _ ys e => ⟨ys, e⟩, fun _ _ e _ => e⟩
  · rw [hW] at z
    obtain ⟨_, _, h, _⟩ := z
    exact SqL.of h
  · rw [hW] at z
    obtain ⟨o1, rfl, h2, t1, t2, t3⟩ := z
    obtain ⟨p, ep, hp⟩ := hs.at hx
    cases hp with
    | @inn c0 k hc =>
      have hC : SqT K H2 c0 [.str "in", .int k] := SqT.of (t1 _ _ hc)
      walk_at "wp"
      refine ⟨_, _, _, .str "in", rfl, rfl, hC, rfl, rfl, _, rfl, fun c => absurd (of_decide_eq_true c) (by decide +kernel), fun _ => ?_⟩
      rw [hW]
      exact ⟨_, rfl, h2, t1, t2, t3⟩
    | @par c0 m k ys qs hc hm nm lm hq =>
      have hC : SqT K H2 c0 [.str "parted", .int k, .ref m] := SqT.of (t1 _ _ hc)
      have nml : m ≠ l := fun e => by
        rw [e, hl] at hm
        cases hm
        have := papsIn_uniq hs hq
        have k1 := Pap.kn_mem (List.mem_of_getElem? ep)
        simp only [Pap.kn] at k1
        rw [this] at k1
        omega
      obtain ⟨ys', hm2⟩ := t2 _ _ hm
      walk_at "wp"
      refine ⟨_, _, _, .str "parted", rfl, rfl, hC, rfl, rfl, _, rfl, fun _ => ⟨_, _, _, .ref m, rfl, rfl, hC, rfl, .inl ⟨rfl, _, SqL.of hm2⟩, m, ys', rfl, rfl, hm2, ?_⟩, fun c => absurd (decide_eq_true rfl) c⟩
      rw [hW]
      refine ⟨_, rfl, by rw [upd_ne (Ne.symm nml)]; exact h2, fun x ys e => ?_, fun x ys e => ?_, fun x o e n => ?_⟩
      · rw [upd_ne (fun z => by rw [z, hm] at e; cases e)]
        exact t1 x ys e
      · by_cases z : x = m
        · rw [z]
          exact ⟨_, upd_same⟩
        · rw [upd_ne z]
          exact t2 x ys e
      · rw [upd_ne (fun z => n (by rw [z]; exact nm))]
        exact t3 x o e n
  · rw [hW] at z
    obtain ⟨o1, rfl, h2, t1, t2, t3⟩ := z
    have hT2 : SqT K H2 b0 [.str "parted", .int b, .ref l] := SqT.of (t1 _ _ hb)
    walk_at "wp"
    refine ⟨_, _, _, .ref l, rfl, rfl, hT2, rfl, .inl ⟨rfl, _, SqL.of h2⟩, l, zs, rfl, rfl, h2, q _ fun x o e n => ?_⟩
    rw [upd_ne (fun z => n (by rw [z]; exact hN))]
    exact t3 x o e n

end
end SMk73
namespace SMk73
open PySem L2 SM
section
variable {P : Program} {w : World} {K : PySem.W.Frag} {mg : Str → Option Value} {base : Heap}
theorem cutV_take73 (xs : List V) (n : Nat) : cutV xs none (some (n : Int)) = xs.take n := by
  unfold cutV
  have e1 : HT.sIx xs.length 0 none = 0 := rfl
  have e2 : HT.sIx xs.length xs.length (some (n : Int)) = min n xs.length := by
    unfold HT.sIx
    simp only
    split <;> omega
  rw [e1, e2, List.drop_zero, Nat.sub_zero]
  by_cases c : n ≤ xs.length
  · rw [Nat.min_eq_left c]
  · rw [Nat.min_eq_right (by omega), List.take_of_length_le (Nat.le_refl _), List.take_of_length_le (by omega)]
theorem numss_app : ∀ ps qs : List Pap, numss (ps ++ qs) = numss ps ++ numss qs
  | [], _ => rfl
  | p :: ps, qs => by simp only [List.cons_append, numss, numss_app ps qs, List.append_assoc]
theorem kns_app : ∀ ps qs : List Pap, Pap.kns (ps ++ qs) = Pap.kns ps + Pap.kns qs
  | [], _ => by simp [Pap.kns]
  | p :: ps, qs => by
    simp only [List.cons_append, Pap.kns, kns_app ps qs]
    omega
theorem deps_app : ∀ ps qs : List Pap, Pap.deps (ps ++ qs) = max (Pap.deps ps) (Pap.deps qs)
  | [], _ => by simp [Pap.deps]
  | p :: ps, qs => by
    simp only [List.cons_append, Pap.deps, deps_app ps qs]
    omega
theorem numss_one (p : Pap) : numss [p] = nums p := by simp [numss]
def sp_paper73 (K : PySem.W.Frag) : Sp := fun vs H Q _ => ∃ (a : Addr) (ns : List Int), vs = [.ref a] ∧ SqL K H a (ns.map V.int) ∧ ns.length ≤ 63 ∧ ∀ (v : V) (b : Int) (ps : List Pap) (H' : Hp), Same H H' → PapIn K anyL H' v (.par b ps) → POk (.par b ps) → Pap.kns ps ≤ 200 → Pap.deps ps ≤ 39 → Q v H'
theorem h_law_paper (T : TF K mg "_law_paper" s_law_paper) (m_len : mg "len" = none) (m_min : mg "min" = none) (m_max : mg "max" = none) (G_law_cell_at : Has P w K mg base 1 "_law_cell_at" ["script", "k"] (sp_cell_at K)) : Has P w K mg base 2 "_law_paper" ["script"] (sp_paper73 K) := by
  refine T.has sc_law_paper (fun _ _ _ _ _ _ us hl => match us, hl with | [_], _ => rfl) (fun vs H Q E h => ?_) (fun f cdv A outer s H vs Q E hr h => ?_)
  · obtain ⟨a, ns, rfl, _⟩ := h
    rfl
  obtain ⟨a, ns, rfl, hS, h63, q⟩ := h
  refine ⟨_, (pss_cons (ps_set (i := 1) sc_law_paper.nd rfl (Or.inl rfl) (pe_lst pa_nil)) (pss_cons (ps_set (i := 2) sc_law_paper.nd rfl (Or.inl rfl) (pe_lst pa_nil)) (pss_cons (ps_for PassesOwn.never rfl (pi_list (pe_slice sl_list (pv 0) (po_some pe_int) (po_some pe_int))) (pg_name (i := 3) sc_law_paper.nd rfl (Or.inl rfl)) (pss_cons (ps_set (i := 4) sc_law_paper.nd rfl (Or.inl rfl) (pe_callB (call_min2 rfl) rfl m_min (by decide +kernel) (pa_cons (pe_op op_mod (pe_op op_fdivA (pv 3) pe_int) pe_int) (pa_cons (pe_callB call_len_seq rfl m_len PySem.boot_len (pa_cons (pv 1) pa_nil)) pa_nil)))) (pss_cons (ps_cut (ps_set (i := 5) sc_law_paper.nd rfl (Or.inl rfl) (pe_op op_sub (pe_callB call_len_seq rfl m_len PySem.boot_len (pa_cons (pv 1) pa_nil)) (pv 4)))) (pss_cons (ps_cut (ps_set (i := 6) sc_law_paper.nd rfl (Or.inl rfl) (pe_maxD rfl rfl m_max (pe_slice sl_list (pv 2) (po_some (pv 5)) po_none) pe_int))) (pss_cons (ps_cut (ps_set (i := 7) sc_law_paper.nd rfl (Or.inl rfl) (pe_op op_mod (pe_op op_fdivA (pv 3) pe_int) (pe_ix ix_list (pe_lst (pa_cons pe_int (pa_cons (pe_op op_pow pe_int pe_int) pa_nil))) (pe_op op_mod (pe_op op_fdivA (pv 3) pe_int) pe_int) (fun _ _ => rfl))))) (pss_one (ps_if (PW.pt (pw_or (pt_cmpR op_eq (pe_op op_mod (pv 3) pe_int) pe_int (nomark _)) (pw_or1 (pt_cmpR op_gt (pv 6) pe_int (nomark _))))) (pss_cons (ps_expr (pe_bm PySem.F.plainAttrs_list PySem.F.slot_list_append PySem.F.type_list_append mt_append (pv 1) (pa_cons (pe_tup (pa_cons pe_str (pa_cons (pv 7) pa_nil))) pa_nil))) (pss_one (ps_expr (pe_bm PySem.F.plainAttrs_list PySem.F.slot_list_append PySem.F.type_list_append mt_append (pv 2) (pa_cons pe_int pa_nil))))) (pss_cons (ps_set (i := 1) sc_law_paper.nd rfl (Or.inl rfl) (pe_op op_cat (pe_slice sl_list (pv 1) po_none (po_some (pv 5))) (pe_lst (pa_cons (pe_tup (pa_cons pe_str (pa_cons (pe_ix ix_list (pe_lst (pa_cons (pv 4) (pa_cons (pv 7) pa_nil))) (pe_op op_mod (pe_op op_fdivA (pv 3) pe_int) pe_int) (fun _ _ => rfl)) (pa_cons (pe_slice sl_list (pv 1) (po_some (pv 5)) po_none) pa_nil)))) pa_nil)))) (pss_one (ps_set (i := 2) sc_law_paper.nd rfl (Or.inl rfl) (pe_op op_cat (pe_slice sl_list (pv 2) po_none (po_some (pv 5))) (pe_lst (pa_cons (pe_op op_add (pv 6) pe_int) pa_nil))))))))))))) (pss_one (ps_ret (pe_tup (pa_cons pe_str (pa_cons (pe_op op_mod (pe_def (G_law_cell_at.mono (by first | decide | omega)) hr (pa_cons (pv 0) (pa_cons pe_int pa_nil))) (pe_op op_pow pe_int pe_int)) (pa_cons (pv 1) pa_nil))))))))), ?_⟩
  walk_at "wp"
  intro P0 nP0 D0 nD0
  have g0 := (same_new nP0 (.lst [])).trans (same_new nD0 (.lst []))
  have hP0 := (same_new nD0 (.lst [])) _ _ (upd_same (H := H) (a := P0) (o := .lst []))
  have hD0 := upd_same (H := upd H P0 (.lst [])) (a := D0) (o := .lst [])
  have nDP : P0 ≠ D0 := fun e => by rw [← e, upd_same] at nD0; cases nD0
  have nD0' : H D0 = none := (same_new nP0 (.lst [])).free nD0
  generalize upd (upd H P0 (.lst [])) D0 (.lst []) = H0 at g0 hP0 hD0 ⊢
  refine ⟨a, _, rfl, g0.seq hS, fun CL nC => ?_⟩
  rw [cutV_map]
  generalize hcs : cutI ns (some 1) (some 61) = cs
  have lcs : cs.length ≤ 63 := by rw [← hcs]; exact Nat.le_trans (cutI_length _ _ _) h63
  have gC := same_new nC (.lst (cs.map V.int))
  have hC := upd_same (H := H0) (a := CL) (o := .lst (cs.map V.int))
  have hP1 := gC _ _ hP0
  have hD1 := gC _ _ hD0
  have g1 := g0.trans gC
  have nC' : H CL = none := g0.free nC
  generalize upd H0 CL (.lst (cs.map V.int)) = H1 at gC hC hP1 hD1 g1 ⊢
  refine ⟨CL, rfl, ⟨_, SqL.of hC⟩, ?_⟩
  obtain ⟨W, hW⟩ : ∃ W : Nat → St → Hp → Prop, W = fun i σ H2 => ∃ (o3 o4 o5 o6 o7 : Option V) (P D : Addr) (xs : List V) (ps : List Pap), σ = [some (.ref a), some (.ref P), some (.ref D), o3, o4, o5, o6, o7] ∧ Same H H2 ∧ H2 CL = some (.lst (cs.map V.int)) ∧ H P = none ∧ H D = none ∧ P ≠ D ∧ CL ≠ P ∧ CL ≠ D ∧ H2 P = some (.lst xs) ∧ H2 D = some (.lst ((ps.map fun p => (p.dep : Int)).map V.int)) ∧ PapsIn K (fun b => b ≠ P ∧ b ≠ D) H2 xs ps ∧ POks ps ∧ Pap.kns ps ≤ i ∧ Pap.deps ps ≤ 39 := ⟨_, rfl⟩
  refine forW_list (xs := cs.map V.int) W ?_ (fun i σ H2 _ z => ?_) (fun i x σ H2 hx z => ?_) (fun σ H2 z => ?_)
  · rw [hW]
    exact ⟨none, none, none, none, none, P0, D0, [], [], rfl, g1, hC, nP0, nD0', nDP, (fun e => by rw [e, hP0] at nC; cases nC), (fun e => by rw [e, hD0] at nC; cases nC), hP1, hD1, .nil, (fun n hn => nomatch hn), Nat.zero_le _, by simp [Pap.deps]⟩
  · rw [hW] at z
    obtain ⟨_, _, _, _, _, _, _, _, _, _, _, h, _⟩ := z
    exact SqL.of h
  · rw [hW] at z
    obtain ⟨o3, o4, o5, o6, o7, P, D, xs, ps, rfl, g, hCL, nP, nD, nPD, nCP, nCD, hP, hD, hx3, ok, kp, dp⟩ := z
    rw [List.getElem?_map] at hx
    obtain ⟨cell, hc, rfl⟩ := Option.map_eq_some_iff.mp hx
    have hi := (List.getElem?_eq_some_iff.mp hc).1
    have lx := hx3.len
    have lk := Pap.kns_len ps
    have m4 := modB (cell / 2) (show (0 : Int) < 4 by decide)
    walk_at "wp"
    refine ⟨divA 10 (by decide) (by decide) (by decide), by decide, P, xs, rfl, .inl (SqL.of hP), _, _, rfl, ?_⟩
    refine ⟨fun σ H3 => ∃ at_ : Nat, σ = [some (.ref a), some (.ref P), some (.ref D), some (.int cell), some (.int ((xs.length - at_ : Nat) : Int)), some (.int (at_ : Int)), o6, o7] ∧ H3 = H2 ∧ at_ ≤ xs.length, ?_, ?_⟩
    · walk_at "wp"
      refine ⟨P, xs, rfl, .inl (SqL.of hP), ?_⟩
      by_cases c : (xs.length : Int) < cell / 2 % 4
      · have e2 : (xs.length : Int) - (xs.length : Int) = ((0 : Nat) : Int) := by omega
        rw [if_pos c, e2]
        exact ⟨0, rfl, Nat.zero_le _⟩
      · obtain ⟨m, hm⟩ : ∃ m : Nat, cell / 2 % 4 = (m : Int) := ⟨_, (Int.toNat_of_nonneg m4.1).symm⟩
        rw [if_neg c, hm]
        rw [hm] at c
        have e1 : (m : Int) = ((xs.length - (xs.length - m) : Nat) : Int) := by omega
        have e2 : (xs.length : Int) - (m : Int) = ((xs.length - m : Nat) : Int) := by omega
        rw [e2]
        refine ⟨xs.length - m, ?_, by omega⟩
        rw [← e1]
    rintro σ H3 ⟨at_, rfl, rfl, hat⟩
    walk_at "wp"
    refine ⟨fun σ H4 => σ = [some (.ref a), some (.ref P), some (.ref D), some (.int cell), some (.int ((xs.length - at_ : Nat) : Int)), some (.int (at_ : Int)), some (.int (Pap.deps (ps.drop at_) : Nat)), o7] ∧ Same H3 H4, ?_, ?_⟩
    · walk_at "wp"
      refine ⟨D, _, rfl, SqL.of hD, fun p np => ?_⟩
      have ed : cutV ((ps.map fun p => (p.dep : Int)).map V.int) (some (at_ : Int)) none = ((ps.drop at_).map fun p => (p.dep : Int)).map V.int := by
        rw [cutV_drop, List.map_drop, List.map_drop]
      rw [ed]
      refine ⟨p, _, rfl, SqL.of upd_same, fun e => ⟨?_, same_new np _⟩, fun M hM hz => ⟨?_, same_new np _⟩⟩
      · rw [List.map_eq_nil_iff.mp e]
        rfl
      · rw [Pap.deps_max hM hz]
    rintro σ H4 ⟨rfl, g4⟩
    walk_at "wp"
    refine ⟨fun σ H5 => ∃ n : Int, σ = [some (.ref a), some (.ref P), some (.ref D), some (.int cell), some (.int ((xs.length - at_ : Nat) : Int)), some (.int (at_ : Int)), some (.int (Pap.deps (ps.drop at_) : Nat)), some (.int n)] ∧ Same H4 H5 ∧ 0 ≤ n ∧ n ≤ 10 ^ 60, ?_, ?_⟩
    · walk_at "wp"
      refine ⟨divA 10 (by decide) (by decide) (by decide), ⟨by decide, by decide, by decide⟩, fun p np => ⟨divA 10 (by decide) (by decide) (by decide), by decide, ?_⟩⟩
      have s2 := modB (cell / 8) (show (0 : Int) < 2 by decide)
      have pv := getD_all (Pz := fun z => 1 ≤ z ∧ z ≤ 10 ^ 60) (zs := [61, 10 ^ Int.toNat 60]) (i := (cell / 8 % 2).toNat) (by decide) (by simp; omega)
      refine rIxL_mk (SqL.of upd_same) (atI_getD (zs := [61, 10 ^ Int.toNat 60]) s2.1 (by simp; omega)) ?_
      generalize ([61, 10 ^ Int.toNat 60] : List Int).getD (cell / 8 % 2).toNat 0 = md at pv
      have mb := modB (cell / 16) (show 0 < md by omega)
      exact ⟨_, _, rfl, rfl, by omega, _, rfl, same_new np _, mb.1, by omega⟩
    rintro σ H5 ⟨n, rfl, g5, n0, n1⟩
    walk_at "wp"
    have G5 := g4.trans g5
    have GH := g.trans G5
    have hP5 := G5 _ _ hP
    have hD5 := G5 _ _ hD
    have hC5 := G5 _ _ hCL
    have hx5 := hx3.mono G5
    have dn : DgOk n := dgOk n0 (Int.lt_of_le_of_lt n1 (by decide))
    have app : ∀ (p : Addr), H5 p = none → rAppend (V.ref P) [V.ref p] (upd H5 p (HO.tup [V.str (Str.ofString "in"), V.int n])) fun x H1 => tyV K "list" (V.ref D) H1 ∧ rAppend (V.ref D) [V.int 0] H1 fun x H1 => W (i + 1) [some (V.ref a), some (V.ref P), some (V.ref D), some (V.int cell), some (V.int ((xs.length - at_ : Nat) : Int)), some (V.int (at_ : Int)), some (V.int (Pap.deps (ps.drop at_) : Nat)), some (V.int n)] H1 := fun p np => by
      have gp := same_new np (.tup [V.str "in", .int n])
      have hP6 := gp _ _ hP5
      have hD6 := gp _ _ hD5
      refine ⟨P, xs, _, rfl, rfl, hP6, by rw [sizeLine_eq]; omega, ?_⟩
      have hD7 : upd (upd H5 p (.tup [V.str "in", .int n])) P (.lst (xs ++ [.ref p])) D = some (.lst ((ps.map fun p => (p.dep : Int)).map V.int)) := by rw [upd_ne (Ne.symm nPD)]; exact hD6
      refine ⟨.inl ⟨rfl, _, SqL.of hD7⟩, D, _, _, rfl, rfl, hD7, by rw [sizeLine_eq]; simp; omega, ?_⟩
      rw [hW]
      refine ⟨_, _, _, _, _, P, D, xs ++ [.ref p], ps ++ [.inn n], rfl, ((GH.trans gp).write nP _).write nD _, by rw [upd_ne nCD, upd_ne nCP]; exact gp _ _ hC5, nP, nD, nPD, nCP, nCD, by rw [upd_ne nPD]; exact upd_same, by rw [upd_same]; simp [Pap.dep], (((hx5.mono gp).snoc (.inn upd_same)).write hP6 fun l hl => hl.1).write hD7 fun l hl => hl.2, fun m hm => ?_, by rw [kns_app]; simp [Pap.kns, Pap.kn]; omega, by rw [deps_app]; simp [Pap.deps, Pap.dep]; omega⟩
      rw [numss_app, numss_one] at hm
      rcases List.mem_append.mp hm with z | z
      · exact ok m z
      · rw [show m = n by simpa [nums] using z]
        exact dn
    refine ⟨by decide, fun _ => ⟨.inl ⟨rfl, _, SqL.of hP5⟩, app⟩, fun _ => ⟨fun _ => ⟨.inl ⟨rfl, _, SqL.of hP5⟩, app⟩, fun c38 => ?_⟩⟩
    refine ⟨P, _, rfl, SqL.of hP5, fun p1 np1 => ?_⟩
    rw [cutV_take73]
    have g6 := same_new np1 (.lst (xs.take at_))
    have k1 := upd_same (H := H5) (a := p1) (o := .lst (xs.take at_))
    generalize upd H5 p1 (.lst (xs.take at_)) = H6 at g6 k1 ⊢
    intro p2 np2
    have s2 := modB (cell / 8) (show (0 : Int) < 2 by decide)
    have pv := getD_all (Pz := fun z => 0 ≤ z ∧ z ≤ 10 ^ 60) (zs := [((xs.length - at_ : Nat) : Int), n]) (i := (cell / 8 % 2).toNat) (fun z hz => by
      simp only [List.mem_cons, List.not_mem_nil, or_false] at hz
      rcases hz with rfl | rfl <;> omega) (by simp; omega)
    refine ⟨divA 10 (by decide) (by decide) (by decide), by decide, rIxL_mk (SqL.of upd_same) (atI_getD (zs := [((xs.length - at_ : Nat) : Int), n]) s2.1 (by simp; omega)) ?_⟩
    generalize ([((xs.length - at_ : Nat) : Int), n] : List Int).getD (cell / 8 % 2).toNat 0 = b at pv
    have g7 := same_new np2 (.lst [V.int ((xs.length - at_ : Nat) : Int), V.int n])
    generalize upd H6 p2 (.lst [V.int ((xs.length - at_ : Nat) : Int), V.int n]) = H7 at g7 ⊢
    have G7 := g6.trans g7
    refine ⟨P, _, rfl, SqL.of (G7 _ _ hP5), fun p3 np3 => ?_⟩
    rw [cutV_drop]
    have g8 := same_new np3 (.lst (xs.drop at_))
    have k3 := upd_same (H := H7) (a := p3) (o := .lst (xs.drop at_))
    generalize upd H7 p3 (.lst (xs.drop at_)) = H8 at g8 k3 ⊢
    intro p4 np4
    have g9 := same_new np4 (.tup [V.str "parted", .int b, .ref p3])
    have k4 := upd_same (H := H8) (a := p4) (o := .tup [V.str "parted", .int b, .ref p3])
    generalize upd H8 p4 (.tup [V.str "parted", .int b, .ref p3]) = H9 at g9 k4 ⊢
    intro p5 np5
    have g10 := same_new np5 (.lst [V.ref p4])
    have k5 := upd_same (H := H9) (a := p5) (o := .lst [V.ref p4])
    generalize upd H9 p5 (.lst [V.ref p4]) = H10 at g10 k5 ⊢
    have lt : (xs.take at_).length ≤ 1000 := by rw [List.length_take]; omega
    refine ⟨p1, p5, _, _, rfl, rfl, g10 _ _ (g9 _ _ (g8 _ _ (g7 _ _ k1))), k5, by rw [sizeLine_eq]; simp; omega, fun p6 np6 => ?_⟩
    have T8 := g9.trans g10
    have T7 := g8.trans T8
    have T5 := G7.trans T7
    have X1 : PapsIn K anyL H10 (xs.take at_ ++ [.ref p4]) (ps.take at_ ++ [.par b (ps.drop at_)]) := by
      have h0 := (hx5.imp (N' := anyL) fun _ _ => trivial).mono T5
      refine (h0.take at_).snoc (.par (g10 _ _ k4) (T8 _ _ k3) trivial (by rw [List.length_drop]; omega) (h0.drop at_))
    have X2 := papsIn_off np6 X1
    have g11 := same_new np6 (.lst (xs.take at_ ++ [V.ref p4]))
    have k6 := upd_same (H := H10) (a := p6) (o := .lst (xs.take at_ ++ [V.ref p4]))
    have X3 := X2.mono g11
    generalize upd H10 p6 (.lst (xs.take at_ ++ [V.ref p4])) = H11 at g11 k6 X3 ⊢
    have T11 := T5.trans g11
    refine ⟨D, _, rfl, SqL.of (T11 _ _ hD5), fun p7 np7 => ?_⟩
    have et : cutV ((ps.map fun p => (p.dep : Int)).map V.int) none (some (at_ : Int)) = ((ps.take at_).map fun p => (p.dep : Int)).map V.int := by
      rw [cutV_take73, List.map_take, List.map_take]
    rw [et]
    have g12 := same_new np7 (.lst (((ps.take at_).map fun p => (p.dep : Int)).map V.int))
    have k7 := upd_same (H := H11) (a := p7) (o := .lst (((ps.take at_).map fun p => (p.dep : Int)).map V.int))
    generalize upd H11 p7 (.lst (((ps.take at_).map fun p => (p.dep : Int)).map V.int)) = H12 at g12 k7 ⊢
    intro p8 np8
    have g13 := same_new np8 (.lst [V.int ((Pap.deps (ps.drop at_) : Nat) + 1)])
    have k8 := upd_same (H := H12) (a := p8) (o := .lst [V.int ((Pap.deps (ps.drop at_) : Nat) + 1)])
    generalize upd H12 p8 (.lst [V.int ((Pap.deps (ps.drop at_) : Nat) + 1)]) = H13 at g13 k8 ⊢
    refine ⟨p7, p8, _, _, rfl, rfl, g13 _ _ k7, k8, by rw [sizeLine_eq]; simp; omega, fun p9 np9 => ?_⟩
    have G13 := g12.trans g13
    have X4 := papsIn_off np9 (X3.mono G13)
    have g14 := same_new np9 (.lst (((ps.take at_).map fun p => (p.dep : Int)).map V.int ++ [V.int ((Pap.deps (ps.drop at_) : Nat) + 1)]))
    have k6' := G13 _ _ k6
    have n69 : p6 ≠ p9 := fun e => by rw [← e, k6'] at np9; cases np9
    have nH6 : H p6 = none := GH.free (T5.free np6)
    have nH9 : H p9 = none := GH.free (T11.free (G13.free np9))
    have hC10 := T5 _ _ hC5
    have hC13 := G13 _ _ (g11 _ _ hC10)
    have kk := kns_app (ps.take at_) (ps.drop at_)
    rw [List.take_append_drop] at kk
    have dd := deps_app (ps.take at_) (ps.drop at_)
    rw [List.take_append_drop] at dd
    rw [hW]
    refine ⟨_, _, _, _, _, p6, p9, xs.take at_ ++ [.ref p4], ps.take at_ ++ [.par b (ps.drop at_)], rfl, GH.trans (T11.trans (G13.trans g14)), g14 _ _ hC13, nH6, nH9, n69, (fun e => by rw [e, np6] at hC10; cases hC10), (fun e => by rw [e, np9] at hC13; cases hC13), g14 _ _ k6', by rw [upd_same]; simp [Pap.dep], (X4.imp fun b hb => ⟨hb.1.2, hb.2⟩).mono g14, fun m hm => ?_, by rw [kns_app]; simp only [Pap.kns, Pap.kn]; omega, by rw [deps_app]; simp only [Pap.deps, Pap.dep]; omega⟩
    have na := numss_app (ps.take at_) (ps.drop at_)
    rw [List.take_append_drop] at na
    have ok' : ∀ m ∈ numss (ps.take at_) ++ numss (ps.drop at_), DgOk m := fun m hm => ok m (by rw [na]; exact hm)
    rw [numss_app, numss_one] at hm
    rcases List.mem_append.mp hm with z | z
    · exact ok' m (List.mem_append_left _ z)
    · unfold nums at z
      rcases List.mem_cons.mp z with z | z
      · rw [z]
        exact dgOk pv.1 (Int.lt_of_le_of_lt pv.2 (by decide))
      · exact ok' m (List.mem_append_right _ z)
  · rw [hW] at z
    obtain ⟨o3, o4, o5, o6, o7, P, D, xs, ps, rfl, g, hCL, nP, nD, nPD, nCP, nCD, hP, hD, hx3, ok, kp, dp⟩ := z
    walk_at "wp"
    refine ⟨a, ns, 0, rfl, g.seq hS, by decide, ?_⟩
    have mb := modB (ns.getD (Int.toNat 0) 0) (show (0 : Int) < 10 ^ Int.toNat 60 by decide)
    walk_at "wp"
    refine ⟨⟨by decide, by decide, by decide⟩, by decide, fun p np => ?_⟩
    generalize ns.getD (Int.toNat 0) 0 % 10 ^ Int.toNat 60 = b at mb
    have gp := same_new np (.tup [V.str "parted", .int b, .ref P])
    have lx := hx3.len
    have lk := Pap.kns_len ps
    rw [List.length_map] at kp
    refine q (.ref p) b ps _ (g.trans gp) (.par upd_same (gp _ _ hP) trivial (by omega) ((hx3.imp fun _ _ => trivial).mono gp)) (fun m hm => ?_) (by omega) dp
    unfold nums at hm
    rcases List.mem_cons.mp hm with z | z
    · rw [z]
      exact dgOk mb.1 (Int.lt_trans mb.2 (by decide))
    · exact ok m z

def sp_law (K : PySem.W.Frag) : Sp := fun vs H Q _ => ∃ (a : Addr) (ns : List Int), vs = [.ref a] ∧ SqL K H a (ns.map V.int) ∧ ns.length ≤ 63 ∧ (∀ z ∈ ns, Builtin.Int.intBits z ≤ 2 ^ 20) ∧ ∀ H', Q (.bl true) H'
theorem sp_start (K : PySem.W.Frag) (H : Hp) (a : Addr) (ns : List Int) (h1 : ns.length ≤ 63) (hb : ∀ z ∈ ns, Builtin.Int.intBits z ≤ 2 ^ 20) (h2 : SqL K H a (ns.map V.int)) : sp_law K [.ref a] H (fun v _ => v = .bl true) fun _ _ _ => False := ⟨a, ns, rfl, h2, h1, hb, fun _ => rfl⟩

theorem h_law (T : TF K mg "law" s_law) (m_isinstance : mg "isinstance" = none) (m_str : mg "str" = none) (G_law_paper : Has P w K mg base 2 "_law_paper" ["script"] (sp_paper73 K)) (G_law_copy : Has P w K mg base 42 "_law_copy" ["paper"] (sp_copy K 41)) (G_shown_paper : Has P w K mg base 42 "shown_paper" ["paper"] (sp_shown K 41)) (G_law_text : Has P w K mg base 42 "_law_text" ["paper"] (sp_shown K 41)) (G_law_alike : Has P w K mg base 42 "_law_alike" ["told", "due"] (sp_alike K 41)) (G_law_depth : Has P w K mg base 42 "_law_depth" ["paper"] (sp_depth K 41)) (G_read_paper : Has P w K mg base 87 "read_paper" ["text"] (sp_rpaper K)) (G_law_emptied : Has P w K mg base 1 "_law_emptied" ["paper"] (sp_emptied K)) : Has P w K mg base 88 "law" ["script"] (sp_law K) := by
  refine T.has sc_law (fun _ _ _ _ _ _ us hl => match us, hl with | [_], _ => rfl) (fun vs H Q E h => ?_) (fun f cdv A outer s H vs Q E hr h => ?_)
  · obtain ⟨a, ns, rfl, _⟩ := h
    rfl
  obtain ⟨a, ns, rfl, hS, h63, _, q⟩ := h
  refine ⟨_, (pss_cons (ps_set (i := 1) sc_law.nd rfl (Or.inl rfl) (pe_def (G_law_paper.mono (by first | decide | omega)) hr (pa_cons (pv 0) pa_nil))) (pss_cons (ps_set (i := 2) sc_law.nd rfl (Or.inl rfl) (pe_def (G_law_copy.mono (by first | decide | omega)) hr (pa_cons (pv 1) pa_nil))) (pss_cons (ps_set (i := 3) sc_law.nd rfl (Or.inl rfl) (pe_def (G_shown_paper.mono (by first | decide | omega)) hr (pa_cons (pv 2) pa_nil))) (pss_cons (ps_if (PW.pt (pw_or (pt_not (pt_val (pe_callB call_isI rfl m_isinstance (by decide +kernel) (pa_cons (pv 3) (pa_cons (pe_bltn (v := .ty "str") rfl m_str (by decide +kernel) rfl) pa_nil))) (fun _ => rfl))) (pw_or (pt_cmpR op_ne (pv 3) (pe_def (G_law_text.mono (by first | decide | omega)) hr (pa_cons (pv 1) pa_nil)) (nomark _)) (pw_or1 (pt_not (pt_val (pe_def (G_law_alike.mono (by first | decide | omega)) hr (pa_cons (pv 2) (pa_cons (pv 1) pa_nil))) (fun _ => rfl))))))) (pss_one (ps_ret pe_bl)) pss_nil) (pss_cons (ps_if (PW.pt (pw_or (pt_cmpR op_gt (pe_def (G_law_depth.mono (by first | decide | omega)) hr (pa_cons (pv 1) pa_nil)) pe_int (nomark _)) (pw_or1 (pt_not (pt_val (pe_def (G_law_alike.mono (by first | decide | omega)) hr (pa_cons (pe_def (G_read_paper.mono (by first | decide | omega)) hr (pa_cons (pv 3) pa_nil)) (pa_cons (pv 1) pa_nil))) (fun _ => rfl)))))) (pss_one (ps_ret pe_bl)) pss_nil) (pss_cons (ps_expr (pe_def (G_law_emptied.mono (by first | decide | omega)) hr (pa_cons (pe_def (G_read_paper.mono (by first | decide | omega)) hr (pa_cons (pv 3) pa_nil)) pa_nil))) (pss_one (ps_ret (pe_def (G_law_alike.mono (by first | decide | omega)) hr (pa_cons (pe_def (G_read_paper.mono (by first | decide | omega)) hr (pa_cons (pv 3) pa_nil)) (pa_cons (pv 1) pa_nil))))))))))), ?_⟩
  walk_at "wp"
  refine ⟨a, ns, rfl, hS, h63, fun v b ps H1 g1 hv ok kp dp => ?_⟩
  have kn : (Pap.par b ps).kn ≤ 201 := by simp only [Pap.kn]; omega
  have dep : (Pap.par b ps).dep ≤ 40 := by simp only [Pap.dep]; omega
  have hv0 := hv
  generalize hp : Pap.par b ps = p at hv ok kn dep
  refine ⟨v, p, rfl, hv, by omega, by omega, fun v2 H2 g2 hv2 => ?_⟩
  have hv2' := hv2.any
  have hva := hv.mono g2
  refine ⟨v2, p, rfl, hv2', ok, by omega, by omega, fun H3 g3 => ?_⟩
  have hva := hva.mono g3
  have hv2' := hv2'.mono g3
  walk_at "wp"
  refine ⟨_, _, _, true, rfl, .str _, rfl, _, rfl, (fun c => nomatch c), fun _ => ⟨v, p, rfl, hva, ok, by omega, by omega, fun H4 g4 => ?_⟩⟩
  have hva := hva.mono g4
  have hv2' := hv2'.mono g4
  refine ⟨rfl, _, rfl, fun c => absurd c (by simp), fun _ => ⟨v2, v, p, rfl, hv2', hva, by omega, by omega, fun H5 g5 => ?_⟩⟩
  have hva := hva.mono g5
  refine ⟨_, rfl, (fun c => nomatch c), fun _ => ?_⟩
  refine ⟨v, p, rfl, hva, by omega, by omega, ?_⟩
  walk_at "wp"
  refine ⟨fun c => by omega, fun _ => ⟨p, rfl, ok, by omega, by omega, fun v6 H6 g6 hv6 => ?_⟩⟩
  have hva := hva.mono g6
  refine ⟨v6, v, p, rfl, hv6.any, hva, by omega, by omega, fun H7 g7 => ?_⟩
  have hva := hva.mono g7
  refine ⟨_, rfl, (fun c => nomatch c), fun _ => ?_⟩
  refine ⟨p, rfl, ok, by omega, by omega, fun v8 H8 g8 hv8 => ?_⟩
  have hva8 := hva.mono g8
  subst hp
  refine ⟨fun x => H7 x = none, v8, b, ps, rfl, hv8, by omega, fun H9 fr => ?_⟩
  have g9 : Same H7 H9 := fun x o e => fr x o (g8 x o e) (fun z => by
    have z' : H7 x = none := z
    rw [e] at z'
    cases z')
  have hva9 := hva.mono g9
  refine ⟨_, rfl, ok, by omega, by omega, fun v10 H10 g10 hv10 => ?_⟩
  exact ⟨v10, v, _, rfl, hv10.any, hva9.mono g10, by omega, by omega, fun H11 g11 => q _⟩

theorem fin {fa : Addr} {h : Heap} (KX : K.In h) (G : h.Ns mainGlobals mg) (hfa : mg "law" = some (.ref fa)) (T_is_figures : TF K mg "is_figures" s_is_figures) (T_read_number : TF K mg "read_number" s_read_number) (T_shown_paper : TF K mg "shown_paper" s_shown_paper) (T_read_paper : TF K mg "read_paper" s_read_paper) (T_law_cell_at : TF K mg "_law_cell_at" s_law_cell_at) (T_law_depth : TF K mg "_law_depth" s_law_depth) (T_law_paper : TF K mg "_law_paper" s_law_paper) (T_law_text : TF K mg "_law_text" s_law_text) (T_law_alike : TF K mg "_law_alike" s_law_alike) (T_law_copy : TF K mg "_law_copy" s_law_copy) (T_law_emptied : TF K mg "_law_emptied" s_law_emptied) (T_law : TF K mg "law" s_law) (m_len : mg "len" = none) (m_min : mg "min" = none) (m_max : mg "max" = none) (m_all : mg "all" = none) (m_zip : mg "zip" = none) (m_int : mg "int" = none) (m_str : mg "str" = none) (m_list : mg "list" = none) (m_tuple : mg "tuple" = none) (m_bool : mg "bool" = none) (m_isinstance : mg "isinstance" = none) (c_MOST_FIGURES : CI mg "MOST_FIGURES" 100) (c_MOST_DEPTH : CI mg "MOST_DEPTH" 40) (c_FIGURES : CS mg "FIGURES" "0123456789") {C_PaperReader : Addr} (cl_PaperReader : Cls K C_PaperReader) (na_PaperReader_text : NoAttr K C_PaperReader "text") (na_PaperReader_place : NoAttr K C_PaperReader "place") (mk_PaperReader : PySem.W.makesIn K C_PaperReader = true) (kc_PaperReader : PySem.W.keepIn K (.ref C_PaperReader) = true) (mg_PaperReader : mg "PaperReader" = some (.ref C_PaperReader)) (T_PaperReader___init__ : TM K C_PaperReader "__init__" "PaperReader.__init__" s_PaperReader___init__) (T_PaperReader_passes : TM K C_PaperReader "passes" "PaperReader.passes" s_PaperReader_passes) (T_PaperReader_needs : TM K C_PaperReader "needs" "PaperReader.needs" s_PaperReader_needs) (T_PaperReader_next_number : TM K C_PaperReader "next_number" "PaperReader.next_number" s_PaperReader_next_number) (T_PaperReader_next_papers : TM K C_PaperReader "next_papers" "PaperReader.next_papers" s_PaperReader_next_papers) (T_PaperReader_next_paper : TM K C_PaperReader "next_paper" "PaperReader.next_paper" s_PaperReader_next_paper) :
    ∃ fd : FuncData, (∀ (s : Shared) (v : Value), BindsTo s fd ⟨[v], []⟩ [("script", v)]) ∧ ∀ base : Heap, K.In base → base.Ns mainGlobals mg → FnOk P w K mg base CX0 88 fa fd ["script"] (sp_law K) :=
  has_law KX G hfa fun _ _ _ =>
    have X : RdTx K C_PaperReader := ⟨cl_PaperReader, na_PaperReader_text, na_PaperReader_place⟩
    have ca := h_law_cell_at T_law_cell_at m_len
    have rn := h_read_number T_read_number m_int c_MOST_FIGURES (h_is_figures T_is_figures m_len m_all c_FIGURES)
    have ps := h_passes X T_PaperReader_passes m_len
    have ne := h_needs cl_PaperReader T_PaperReader_needs ps
    have nn := h_next_number X T_PaperReader_next_number m_len c_FIGURES rn
    have np := h_next_all cl_PaperReader T_PaperReader_next_paper T_PaperReader_next_papers c_MOST_DEPTH ps ne nn 41
    h_law T_law m_isinstance m_str (h_law_paper T_law_paper m_len m_min m_max ca) (h_law_copy T_law_copy 41) (h_shown_paper T_shown_paper 41) (h_law_text T_law_text m_str 41) (h_law_alike T_law_alike m_len m_isinstance m_tuple m_str m_int m_bool m_list m_all m_zip 41) (h_law_depth T_law_depth m_max 41)
      (h_read_paper X cl_PaperReader mk_PaperReader kc_PaperReader mg_PaperReader T_read_paper m_len (h_rinit X T_PaperReader___init__) np) (h_law_emptied T_law_emptied)
end
end SMk73
set_option maxRecDepth 100000 in
set_option maxHeartbeats 0 in
theorem PySem.Challenge.cw_shiftmeet_k73_papers_written_holds : PySem.Challenge.rw_shiftmeet_k73_papers_written.Holds := by
  w_on; o_law; k_head; (case hw => w_witness2)
  k_fill
  refine L2.law_walk (l := PySem.Challenge.rw_shiftmeet_k73_papers_written) (k := 88) (sp := SMk73.sp_law) rfl rfl ⟨rfl, by decide, by decide⟩ (fun w h Y => PySem.W.kIn_of Y) ?F SMk73.sp_start
  case F =>
    intro w mg fa h KX G hmg
    refine' SMk73.fin KX G hmg (L2.tf_mk KX G ?a0 ?l0 ?c0 ?k0) (L2.tf_mk KX G ?a1 ?l1 ?c1 ?k1) (L2.tf_mk KX G ?a2 ?l2 ?c2 ?k2) (L2.tf_mk KX G ?a3 ?l3 ?c3 ?k3) (L2.tf_mk KX G ?a4 ?l4 ?c4 ?k4) (L2.tf_mk KX G ?a5 ?l5 ?c5 ?k5) (L2.tf_mk KX G ?a6 ?l6 ?c6 ?k6) (L2.tf_mk KX G ?a7 ?l7 ?c7 ?k7) (L2.tf_mk KX G ?a8 ?l8 ?c8 ?k8) (L2.tf_mk KX G ?a9 ?l9 ?c9 ?k9) (L2.tf_mk KX G ?a10 ?l10 ?c10 ?k10) (L2.tf_mk KX G ?a11 ?l11 ?c11 ?k11) (PySem.W.mg_none_of KX G ?z0) (PySem.W.mg_none_of KX G ?z1) (PySem.W.mg_none_of KX G ?z2) (PySem.W.mg_none_of KX G ?z3) (PySem.W.mg_none_of KX G ?z4) (PySem.W.mg_none_of KX G ?z5) (PySem.W.mg_none_of KX G ?z6) (PySem.W.mg_none_of KX G ?z7) (PySem.W.mg_none_of KX G ?z8) (PySem.W.mg_none_of KX G ?z9) (PySem.W.mg_none_of KX G ?z10) (L2.ci_mk KX G ?q0) (L2.ci_mk KX G ?q1) (L2.cs_mk KX G ?q2) ⟨?pg0, ?hd0, ?po0, ?sa0⟩ ?nf0_0 ?nf0_1 ?mk0 ?kc0 (PySem.W.mg_of KX G ?aC0) (L2.tm_mk ?ma0_0 ?mi0_0 ?ml0_0 ?mc0_0 ?mp0_0) (L2.tm_mk ?ma0_1 ?mi0_1 ?ml0_1 ?mc0_1 ?mp0_1) (L2.tm_mk ?ma0_2 ?mi0_2 ?ml0_2 ?mc0_2 ?mp0_2) (L2.tm_mk ?ma0_3 ?mi0_3 ?ml0_3 ?mc0_3 ?mp0_3) (L2.tm_mk ?ma0_4 ?mi0_4 ?ml0_4 ?mc0_4 ?mp0_4) (L2.tm_mk ?ma0_5 ?mi0_5 ?ml0_5 ?mc0_5 ?mp0_5)
    (case aC0 => k_is)
    (case a0 => k_is); (case l0 => k_is); (case c0 => k_is); (case k0 => k_is)
    (case a1 => k_is); (case l1 => k_is); (case c1 => k_is); (case k1 => k_is)
    (case a2 => k_is); (case l2 => k_is); (case c2 => k_is); (case k2 => k_is)
    (case a3 => k_is); (case l3 => k_is); (case c3 => k_is); (case k3 => k_is)
    (case a4 => k_is); (case l4 => k_is); (case c4 => k_is); (case k4 => k_is)
    (case a5 => k_is); (case l5 => k_is); (case c5 => k_is); (case k5 => k_is)
    (case a6 => k_is); (case l6 => k_is); (case c6 => k_is); (case k6 => k_is)
    (case a7 => k_is); (case l7 => k_is); (case c7 => k_is); (case k7 => k_is)
    (case a8 => k_is); (case l8 => k_is); (case c8 => k_is); (case k8 => k_is)
    (case a9 => k_is); (case l9 => k_is); (case c9 => k_is); (case k9 => k_is)
    (case a10 => k_is); (case l10 => k_is); (case c10 => k_is); (case k10 => k_is)
    (case a11 => k_is); (case l11 => k_is); (case c11 => k_is); (case k11 => k_is)
    (case z0 => k_is)
    (case z1 => k_is)
    (case z2 => k_is)
    (case z3 => k_is)
    (case z4 => k_is)
    (case z5 => k_is)
    (case z6 => k_is)
    (case z7 => k_is)
    (case z8 => k_is)
    (case z9 => k_is)
    (case z10 => k_is)
    (case q0 => k_is)
    (case q1 => k_is)
    (case q2 => k_is)
    (case pg0 => k_is); (case hd0 => k_is); (case po0 => k_is); (case sa0 => k_is)
    (case nf0_0 => (unfold L2.NoAttr; k_is))
    (case nf0_1 => (unfold L2.NoAttr; k_is))
    (case mk0 => k_is); (case kc0 => k_is)
    (case ma0_0 => k_is); (case mi0_0 => k_is); (case ml0_0 => k_is); (case mc0_0 => k_is); (case mp0_0 => k_is)
    (case ma0_1 => k_is); (case mi0_1 => k_is); (case ml0_1 => k_is); (case mc0_1 => k_is); (case mp0_1 => k_is)
    (case ma0_2 => k_is); (case mi0_2 => k_is); (case ml0_2 => k_is); (case mc0_2 => k_is); (case mp0_2 => k_is)
    (case ma0_3 => k_is); (case mi0_3 => k_is); (case ml0_3 => k_is); (case mc0_3 => k_is); (case mp0_3 => k_is)
    (case ma0_4 => k_is); (case mi0_4 => k_is); (case ml0_4 => k_is); (case mc0_4 => k_is); (case mp0_4 => k_is)
    (case ma0_5 => k_is); (case mi0_5 => k_is); (case ml0_5 => k_is); (case mc0_5 => k_is); (case mp0_5 => k_is)


import PyProof.Rows.All
import Wide.All
import OpenK.AllK
import Wide.FinOn
import PyProof.EqAt
import PyProof.EqKinds
import PyProof.TupleCall
import Lean
import PySem.Challenge.RW_shiftmeet_k74_papers_refused
-- CHANGE: your row's module here, as the last of these rows
set_option Elab.async false
set_option linter.all false
set_option maxRecDepth 100000
namespace L2
open PySem PySem.Spec PyProof.Rows

abbrev Key := Sum Int Str
def keyIs : Key → Value → Bool
  | .inl k, v => Value.isInt k v
  | .inr x, v => Value.isStrOf x v
def keyH (w : World) : Key → Int
  | .inl k => hashInt k
  | .inr x => hashStr w x
theorem keyIs_shape : ∀ {k : Key} {v : Value}, keyIs k v = true → (∃ i t, k = Sum.inl i ∧ v = Value.int i t) ∨ (∃ x t, k = Sum.inr x ∧ v = Value.str x t)
  | .inl i, v, h => by
    obtain ⟨t, e⟩ := Value.isInt_shape (k := i) (v := v) h
    exact .inl ⟨i, t, rfl, e⟩
  | .inr x, v, h => by
    obtain ⟨t, e⟩ := Value.isStrOf_shape (x := x) (v := v) h
    exact .inr ⟨x, t, rfl, e⟩
theorem key_ll (a b : Int) : decide ((Sum.inl a : Key) = Sum.inl b) = (a == b) := by
  by_cases e : a = b
  · subst e; simp
  · have h : ¬ (Sum.inl a : Key) = Sum.inl b := fun q => e (Sum.inl.inj q)
    rw [decide_eq_false h]
    exact (beq_eq_false_iff_ne.mpr e).symm
theorem key_rr (a b : Str) : decide ((Sum.inr a : Key) = Sum.inr b) = decide (a = b) := by
  by_cases e : a = b
  · subst e; simp
  · have h : ¬ (Sum.inr a : Key) = Sum.inr b := fun q => e (Sum.inr.inj q)
    rw [decide_eq_false h, decide_eq_false e]
theorem key_lr (a : Int) (b : Str) : decide ((Sum.inl a : Key) = Sum.inr b) = false := decide_eq_false (fun q => nomatch q)
theorem key_rl (a : Str) (b : Int) : decide ((Sum.inr a : Key) = Sum.inl b) = false := decide_eq_false (fun q => nomatch q)

def mixKind (prog : Program) (w : World) : PySem.KeyKind prog w Key where
  is := keyIs
  hash := keyH w
  inj := fun v a b ha hb => by
    rcases keyIs_shape ha with ⟨i, t, rfl, rfl⟩ | ⟨x, t, rfl, rfl⟩
    · rcases keyIs_shape hb with ⟨j, u, rfl, e⟩ | ⟨y, u, rfl, e⟩
      · injection e with e1 _; rw [e1]
      · exact nomatch e
    · rcases keyIs_shape hb with ⟨j, u, rfl, e⟩ | ⟨y, u, rfl, e⟩
      · exact nomatch e
      · injection e with e1 _; rw [e1]
  byValue := fun k v h => by
    rcases keyIs_shape h with ⟨i, t, rfl, rfl⟩ | ⟨x, t, rfl, rfl⟩ <;> rfl
  pyHash := fun hv h => by
    rcases keyIs_shape hv with ⟨i, t, rfl, rfl⟩ | ⟨x, t, rfl, rfl⟩
    · exact wpAny_pyHash_int h
    · exact wpAny_pyHash_str h
  eqBool := fun hu hv h => by
    rcases keyIs_shape hu with ⟨i, t, rfl, rfl⟩ | ⟨x, t, rfl, rfl⟩
    · rcases keyIs_shape hv with ⟨j, u, rfl, rfl⟩ | ⟨y, u, rfl, rfl⟩
      · rw [key_ll] at h; exact wpAny_eqBool_int h
      · rw [key_lr] at h; exact SeqAt.EqAt.int_str i t y u _ _ _ _ h
    · rcases keyIs_shape hv with ⟨j, u, rfl, rfl⟩ | ⟨y, u, rfl, rfl⟩
      · rw [key_rl] at h; exact SeqAt.EqAt.str_int x t j u _ _ _ _ h
      · rw [key_rr] at h; exact wpAny_eqBool_str h
  «strs» := fun k x t v h => by
    rcases keyIs_shape h with ⟨i, u, rfl, e⟩ | ⟨y, u, rfl, e⟩
    · exact nomatch e
    · injection e with e1 _
      subst e1
      cases v <;> rfl

end L2

namespace L2
open PySem PySem.Spec PyProof.Rows

inductive V where
  | non | bl (b : Bool) | int (i : Int) | str (x : Str) | byt (b : Array UInt8) | flt (b : UInt64) | ref (a : Addr) | ty (n : String)
  deriving DecidableEq

def RelV : V → Value → Prop
  | .non, u => u = Value.none
  | .bl b, u => u = Value.bool b
  | .int i, u => ∃ t, u = Value.int i t
  | .str x, u => ∃ t, u = Value.str x t
  | .byt b, u => ∃ t, u = Value.bytes b t
  | .flt b, u => ∃ t, u = Value.float b t
  | .ref a, u => u = Value.ref a
  | .ty n, u => u = Value.type n

abbrev Vals : List V → List Value → Prop := Paired RelV
theorem Vals.length {xs : List V} {us : List Value} (r : Vals xs us) : xs.length = us.length := Paired.length r
theorem Vals.get : ∀ {xs : List V} {us : List Value} {i : Nat} {x : V}, Vals xs us → xs[i]? = some x → ∃ u, us[i]? = some u ∧ RelV x u
  | _, _, _, _, .nil, e => by simp at e
  | _, _, 0, _, .cons r _, e => by simp at e; subst e; exact ⟨_, rfl, r⟩
  | _, _, i + 1, x, .cons _ t, e => by
    obtain ⟨u, h1, h2⟩ := Vals.get (i := i) (x := x) t (by simpa using e)
    exact ⟨u, by simpa using h1, h2⟩
theorem Vals.set {x : V} {u : Value} (r : RelV x u) : ∀ {xs : List V} {us : List Value} (i : Nat), Vals xs us → Vals (xs.set i x) (us.set i u)
  | _, _, _, .nil => .nil
  | _, _, 0, .cons _ t => .cons r t
  | _, _, i + 1, .cons q t => .cons q (Vals.set r i t)
theorem Vals.append : ∀ {xs ys : List V} {us ws : List Value}, Vals xs us → Vals ys ws → Vals (xs ++ ys) (us ++ ws)
  | _, _, _, _, .nil, s => s
  | _, _, _, _, .cons r t, s => .cons r (Vals.append t s)
theorem Vals.take : ∀ {xs : List V} {us : List Value} (n : Nat), Vals xs us → Vals (xs.take n) (us.take n)
  | _, _, 0, _ => .nil
  | _, _, _ + 1, .nil => .nil
  | _, _, n + 1, .cons r t => .cons r (Vals.take n t)
theorem Vals.drop : ∀ {xs : List V} {us : List Value} (n : Nat), Vals xs us → Vals (xs.drop n) (us.drop n)
  | _, _, 0, r => r
  | _, _, _ + 1, .nil => .nil
  | _, _, n + 1, .cons _ t => Vals.drop n t
theorem Vals.none_of : ∀ {xs : List V} {us : List Value} {i : Nat}, Vals xs us → xs[i]? = none → us[i]? = none := fun {xs us i} r e => by
  have h1 := r.length
  have h2 : xs.length ≤ i := List.getElem?_eq_none_iff.mp e
  exact List.getElem?_eq_none_iff.mpr (by omega)

def RelO : Option V → Option Value → Prop
  | some v, some u => RelV v u
  | none, none => True
  | _, _ => False
def KV {κ : Type} : List (κ × V) → List (κ × Value) → Prop := Paired fun (p : κ × V) (q : κ × Value) => p.1 = q.1 ∧ RelV p.2 q.2

def kV : Key → V
  | .inl i => .int i
  | .inr x => .str x

inductive HO where
  /-- a list -/
  | lst (xs : List V)
  /-- a tuple (never changes) -/
  | tup (xs : List V)
  /-- a dict whose keys are ints and texts; one whose keys are tuples of ints and texts (the empty one is both) -/
  | dK (kvs : List (Key × V)) | dT (kvs : List (List Key × V))
  /-- a set of ints: its members, its size -/
  | set (S : Int → Bool) (n : Nat)
  /-- an instance of the class at C, its dict at dx, its attributes -/
  | ins (C dx : Addr) (fs : List (Str × V))
  /-- the dict of the instance at x -/
  | own (x : Addr)
  /-- the dict of an exception -/
  | xd (fs : List (Str × V))
  /-- a bound method, f of x -/
  | met (f x : Addr)
  /-- a range object lo, lo + 1, .. below hi -/
  | rng (lo hi : Int)
  /-- a thing that is known to the object (the script; a dict while a loop walks it): read, never written while it is so -/
  | frz (o : Obj) (u : HO)
  /-- a code object's table -/
  | tbl (ps : Array Value)
  /-- any other thing, by what is true of its one object (a def of one's own: SetO a S n := HO.ext fun h => ..) -/
  | ext (φ : Heap → Prop)

abbrev Hp := Addr → Option HO
def upd (H : Hp) (a : Addr) (o : HO) : Hp := fun b => if b = a then some o else H b
theorem upd_same {H : Hp} {a : Addr} {o : HO} : upd H a o a = some o := by unfold upd; rw [if_pos rfl]
theorem upd_ne {H : Hp} {a b : Addr} {o : HO} (h : b ≠ a) : upd H a o b = H b := by unfold upd; rw [if_neg h]
theorem ne_of {H : Hp} {a b : Addr} {o u : HO} (h : H a = some o) (h' : H b = some u) (d : o ≠ u) : a ≠ b := by
  intro e; subst e; rw [h] at h'; exact d (Option.some.inj h')
theorem ne_of_none {H : Hp} {a b : Addr} {o : HO} (h : H a = some o) (h' : H b = none) : a ≠ b := by
  intro e; subst e; rw [h] at h'; cases h'

section
variable (P : Program) (w : World)
def ObjOk (H : Hp) (h : Heap) (a : Addr) : HO → Prop
  | .lst xs => xs.length ≤ sizeLine ∧ ∃ (its : List Value) (n : Nat), Vals xs its ∧ h.get? a = some { cls := .type "list", data := .seq its.toArray n }
  | .tup xs => xs.length ≤ sizeLine ∧ ∃ its : List Value, Vals xs its ∧ IsTup h a its.toArray
  | .dK kvs => kvs.length ≤ sizeLine ∧ (a == sysModules) = false ∧ ∃ vs, KV kvs vs ∧ h.DictOf (mixKind P w) a vs
  | .dT kvs => kvs.length ≤ sizeLine ∧ (a == sysModules) = false ∧ ∃ xs : List (List Key × Addr × Value),
      Paired (fun (p : List Key × V) (q : List Key × Addr × Value) => p.1 = q.1 ∧ H q.2.1 = some (.tup (p.1.map kV)) ∧ RelV p.2 q.2.2) kvs xs ∧
      ∃ o es ep, h.get? a = some o ∧ o.ExactDict ∧ o.data = .dict es ep ∧ es.toList = xs.map (entryOfKey (tupleKind (mixKind P w))) ∧ (xs.map (·.1)).Nodup
  | .set S n => h.SetOf (intKind P w) a S n
  | .ins C dx fs => H dx = some (.own a) ∧ fs.length ≤ 1000 ∧ dx ≠ a ∧ h.get? a = some (PySem.W.instObj C dx) ∧
      ∃ mA, h.Ns1 dx mA ∧ (∀ f, RelO (fs.lookup f) (mA f)) ∧ PySem.Within mA (fs.map (·.1))
  | .own _ => ∃ o, h.get? a = some o
  | .xd fs => ∃ mA, h.Ns1 a mA ∧ ∀ f, RelO (fs.lookup f) (mA f)
  | .rng lo hi => ∃ t u v, h.get? a = some { cls := .type "range", data := .fields #[.int lo t, .int hi u, .int 1 v] }
  | .frz o u => h.get? a = some o ∧ ObjOk H h a u
  | .tbl ps => h.get? a = some { cls := .none, data := .fields ps }
  | .met f x => h.get? a = some (PySem.W.methodObj (.ref f) (.ref x))
  | .ext φ => φ h ∧ (∃ o, h.get? a = some o) ∧ ∀ h1 h2 : Heap, φ h1 → (∀ o, h1.get? a = some o → h2.get? a = some o) → φ h2
def HOk (H : Hp) (h : Heap) : Prop := ∀ a o, H a = some o → ObjOk P w H h a o
end

section
variable {P : Program} {w : World} {H H' : Hp} {h h' : Heap} {a : Addr} {o : HO}
theorem ObjOk.lt (x : ObjOk P w H h a o) : a < h.objs.size := by
  cases o with
  | lst xs => obtain ⟨_, _, _, _, e⟩ := x; exact Heap.lt_size e
  | tup xs => obtain ⟨_, _, _, p⟩ := x; exact p.lt
  | dK kvs => obtain ⟨_, _, _, _, o, _, _, e, _⟩ := x; exact Heap.lt_size e
  | dT kvs => obtain ⟨_, _, _, _, o, _, _, e, _⟩ := x; exact Heap.lt_size e
  | set S n => obtain ⟨o, _, _, _, e, _⟩ := x; exact Heap.lt_size e
  | ins C dx fs => obtain ⟨_, _, _, e, _⟩ := x; exact Heap.lt_size e
  | own y => obtain ⟨_, e⟩ := x; exact Heap.lt_size e
  | xd fs => obtain ⟨_, ⟨_, _, _, e, _⟩, _⟩ := x; exact Heap.lt_size e
  | rng lo hi => obtain ⟨_, _, _, e⟩ := x; exact Heap.lt_size e
  | frz ob u => obtain ⟨e, _⟩ := x; exact Heap.lt_size e
  | tbl ps => exact Heap.lt_size (show h.get? a = some _ from x)
  | met f y => exact Heap.lt_size (show h.get? a = some _ from x)
  | ext φ => obtain ⟨_, ⟨_, e⟩, _⟩ := x; exact Heap.lt_size e
theorem Paired.mapP {α β : Type} {F G : α → β → Prop} : ∀ {l₁ : List α} {l₂ : List β}, Paired F l₁ l₂ → (∀ a b, F a b → G a b) → Paired G l₁ l₂
  | _, _, .nil, _ => .nil
  | _, _, .cons r t, f => .cons (f _ _ r) (Paired.mapP t f)
theorem ObjOk.stay (x : ObjOk P w H h a o) (k : ∀ b u, (b = a ∨ H b = some (.own a)) → h.get? b = some u → h'.get? b = some u)
    (ho : ∀ b, H b = some (.own a) → H' b = some (.own a)) (ht : ∀ b xs, H b = some (.tup xs) → H' b = some (.tup xs)) : ObjOk P w H' h' a o := by
  induction o with
  | lst xs => obtain ⟨z, its, n, r, e⟩ := x; exact ⟨z, its, n, r, k _ _ (.inl rfl) e⟩
  | tup xs => obtain ⟨z, its, r, ob, e, c⟩ := x; exact ⟨z, its, r, ob, k _ _ (.inl rfl) e, c⟩
  | dK kvs => obtain ⟨z, y, vs, r, ob, es, ep, e, c⟩ := x; exact ⟨z, y, vs, r, ob, es, ep, k _ _ (.inl rfl) e, c⟩
  | dT kvs =>
    obtain ⟨z, y, xs, r, ob, es, ep, e, c⟩ := x
    exact ⟨z, y, xs, Paired.mapP r fun p q z => ⟨z.1, ht _ _ z.2.1, z.2.2⟩, ob, es, ep, k _ _ (.inl rfl) e, c⟩
  | set S n => obtain ⟨ob, es, ep, t, e, c⟩ := x; exact ⟨ob, es, ep, t, k _ _ (.inl rfl) e, c⟩
  | ins C dx fs =>
    obtain ⟨d, z, ne, e, mA, ⟨od, es, ep, e2, c⟩, r⟩ := x
    exact ⟨ho _ d, z, ne, k _ _ (.inl rfl) e, mA, ⟨od, es, ep, k _ _ (.inr d) e2, c⟩, r⟩
  | own y => obtain ⟨ob, e⟩ := x; exact ⟨ob, k _ _ (.inl rfl) e⟩
  | xd fs => obtain ⟨mA, ⟨od, es, ep, e, c⟩, r⟩ := x; exact ⟨mA, ⟨od, es, ep, k _ _ (.inl rfl) e, c⟩, r⟩
  | rng lo hi => obtain ⟨t, u, v, e⟩ := x; exact ⟨t, u, v, k _ _ (.inl rfl) e⟩
  | frz ob u ih => obtain ⟨e, q⟩ := x; exact ⟨k _ _ (.inl rfl) e, ih q⟩
  | tbl ps =>
    have e : h.get? a = some { cls := .none, data := .fields ps } := x
    show h'.get? a = some { cls := .none, data := .fields ps }
    exact k a _ (.inl rfl) e
  | met f y =>
    have e : h.get? a = some (PySem.W.methodObj (.ref f) (.ref y)) := x
    show h'.get? a = some (PySem.W.methodObj (.ref f) (.ref y))
    exact k a _ (.inl rfl) e
  | ext φ => obtain ⟨p, ⟨o, e⟩, st⟩ := x; exact ⟨st _ _ p fun o q => k _ _ (.inl rfl) q, ⟨o, k _ _ (.inl rfl) e⟩, st⟩
theorem HOk.lt (x : HOk P w H h) (e : H a = some o) : a < h.objs.size := (x a o e).lt
theorem HOk.fresh (x : HOk P w H h) (e : h.objs.size ≤ a) : H a = none := by
  cases q : H a with
  | none => rfl
  | some u => exact absurd (Nat.lt_of_lt_of_le (x.lt q) e) (Nat.lt_irrefl _)
theorem HOk.kept (x : HOk P w H h) (k : ∀ b u, h.get? b = some u → h'.get? b = some u) : HOk P w H h' := fun a o e =>
  (x a o e).stay (fun b u _ q => k b u q) (fun _ q => q) fun _ _ q => q
theorem HOk.laid (x : HOk P w H h) (k : ∀ b u, h.get? b = some u → h'.get? b = some u) (hp : h.objs.size ≤ a) (new : ObjOk P w (upd H a o) h' a o) : HOk P w (upd H a o) h' := fun b u e => by
  have hn := x.fresh hp
  by_cases hb : b = a
  · subst hb; rw [upd_same] at e; cases e; exact new
  · rw [upd_ne hb] at e
    exact (x b u e).stay (fun c v _ q => k c v q) (fun c q => by rw [upd_ne (ne_of_none q hn)]; exact q) fun c xs q => by rw [upd_ne (ne_of_none q hn)]; exact q
end

def Rd (H : Hp) (a : Addr) (u : HO) : Prop := H a = some u ∨ ∃ o, H a = some (.frz o u)
theorem Rd.of {H : Hp} {a : Addr} {u : HO} (h : H a = some u) : Rd H a u := .inl h
theorem Rd.ok {P : Program} {w : World} {H : Hp} {h : Heap} {a : Addr} {u : HO} (r : Rd H a u) (x : HOk P w H h) : ObjOk P w H h a u := by
  rcases r with r | ⟨o, r⟩
  · exact x a u r
  · obtain ⟨_, q⟩ := x a _ r
    exact q
def Mut : Option HO → Prop
  | some (.lst _) => True
  | some (.dK _) => True
  | some (.dT _) => True
  | some (.set _ _) => True
  | some (.ins _ _ _) => True
  | some (.ext _) => True
  | _ => False
section
variable {P : Program} {w : World} {H : Hp} {h h' : Heap} {x e : Addr} {o' : HO}
theorem HOk.write (ok : HOk P w H h) (mu : Mut (H x)) (he : e = x ∨ H e = some (.own x)) (k : ∀ b u, b ≠ e → h.get? b = some u → h'.get? b = some u) (heo : ∃ u, h'.get? e = some u)
    (new : ObjOk P w (upd H x o') h' x o') : HOk P w (upd H x o') h' := fun b u q => by
  have nown : ∀ c y, H c = some (.own y) → c ≠ x := fun c y r z => by subst z; rw [r] at mu; exact mu
  have ntup : ∀ c xs, H c = some (.tup xs) → c ≠ x := fun c xs r z => by subst z; rw [r] at mu; exact mu
  by_cases hb : b = x
  · subst hb; rw [upd_same] at q; cases q; exact new
  · rw [upd_ne hb] at q
    by_cases hbe : b = e
    · have q' : H b = some (.own x) := by
        rcases he with z | z
        · exact absurd (hbe.trans z) hb
        · rw [hbe]; exact z
      rw [q] at q'; cases q'
      obtain ⟨v, hv⟩ := heo
      exact ⟨v, by rw [hbe]; exact hv⟩
    · refine (ok b u q).stay (fun c v hc r => k c v ?_ r) (fun c r => by rw [upd_ne (nown c b r)]; exact r) fun c xs r => by rw [upd_ne (ntup c xs r)]; exact r
      rcases hc with rfl | hc
      · exact hbe
      · rintro rfl
        rcases he with z | z
        · exact nown c b hc z
        · rw [hc] at z; cases z; exact hb rfl
end

structure Un (fs ex : List Addr) (H H' : Hp) (h h' : Heap) : Prop where
  keep : ∀ b o, h.get? b = some o → H b = none → b ∉ fs → b ∉ ex → h'.get? b = some o
  slot : ∀ b o, h.get? b = some o → H b = none → b ∈ fs → b ∉ ex → ∃ sl, h'.get? b = some { o with slots := sl }
  free : ∀ b o, h.get? b = some o → H b = none → b ∉ ex → H' b = none
  there : ∀ b o, h.get? b = some o → b ∉ ex → ∃ o', h'.get? b = some o'
  tups : ∀ b xs, H b = some (.tup xs) → H' b = some (.tup xs)
  frzs : ∀ b o u, H b = some (.frz o u) → H' b = some (.frz o u)
  tbls : ∀ b ps, H b = some (.tbl ps) → ∃ more, H' b = some (.tbl (ps ++ more))
section
variable {fs fs' ex ex' : List Addr} {H H1 H2 : Hp} {h h1 h2 h' : Heap} {a x e : Addr} {o : HO}
theorem Un.any (u : Un fs ex H H1 h h1) {b : Addr} {ob : Obj} (q : h.get? b = some ob) (n : H b = none) (hx : b ∉ ex) : ∃ sl, h1.get? b = some { ob with slots := sl } := by
  by_cases hb : b ∈ fs
  · exact u.slot b ob q n hb hx
  · exact ⟨ob.slots, u.keep b ob q n hb hx⟩
theorem Un.trans (a : Un fs ex H H1 h h1) (b : Un fs ex H1 H2 h1 h2) : Un fs ex H H2 h h2 where
  keep := fun c ob q n hc hx => b.keep c ob (a.keep c ob q n hc hx) (a.free c ob q n hx) hc hx
  slot := fun c ob q n hc hx => by
    obtain ⟨sl, e1⟩ := a.slot c ob q n hc hx
    obtain ⟨sl', e2⟩ := b.slot c _ e1 (a.free c ob q n hx) hc hx
    exact ⟨sl', e2⟩
  free := fun c ob q n hx => by
    obtain ⟨o', e1⟩ := a.there c ob q hx
    exact b.free c o' e1 (a.free c ob q n hx) hx
  there := fun c ob q hx => by
    obtain ⟨o', e1⟩ := a.there c ob q hx
    exact b.there c o' e1 hx
  tups := fun c xs q => b.tups c xs (a.tups c xs q)
  frzs := fun c ob xs q => b.frzs c ob xs (a.frzs c ob xs q)
  tbls := fun c ps q => by
    obtain ⟨m1, e1⟩ := a.tbls c ps q
    obtain ⟨m2, e2⟩ := b.tbls c _ e1
    exact ⟨m1 ++ m2, by rw [e2, Array.append_assoc]⟩
theorem Un.kept (k : ∀ b u, h.get? b = some u → h'.get? b = some u) : Un fs ex H H h h' :=
  ⟨fun b ob q _ _ _ => k b ob q, fun b ob q _ _ _ => ⟨ob.slots, k b ob q⟩, fun _ _ _ n _ => n, fun b ob q _ => ⟨ob, k b ob q⟩, fun _ _ q => q, fun _ _ _ q => q, fun _ ps q => ⟨#[], by rw [q]; simp⟩⟩
theorem Un.refl : Un fs ex H H h h := Un.kept fun _ _ q => q
theorem Un.laid (k : ∀ b u, h.get? b = some u → h'.get? b = some u) (hp : h.objs.size ≤ a) (hn : H a = none) : Un fs ex H (upd H a o) h h' where
  keep := fun b u q _ _ _ => k b u q
  slot := fun b u q _ _ _ => ⟨u.slots, k b u q⟩
  free := fun b u q n _ => by rw [upd_ne (Nat.ne_of_lt (Nat.lt_of_lt_of_le (Heap.lt_size q) hp))]; exact n
  there := fun b u q _ => ⟨u, k b u q⟩
  tups := fun b xs q => by rw [upd_ne (ne_of_none q hn)]; exact q
  frzs := fun b u xs q => by rw [upd_ne (ne_of_none q hn)]; exact q
  tbls := fun b ps q => ⟨#[], by rw [upd_ne (ne_of_none q hn), q]; simp⟩
theorem Un.write (mu : Mut (H x)) (he : e = x ∨ H e = some (.own x)) (k : ∀ b u, b ≠ e → h.get? b = some u → h'.get? b = some u) (heo : ∃ u, h'.get? e = some u) : Un fs ex H (upd H x o) h h' := by
  have hx : ∀ b, H b = none → b ≠ x := fun b n z => by subst z; rw [n] at mu; exact mu
  have hb : ∀ b, H b = none → b ≠ e := fun b n z => by
    subst z
    rcases he with r | r
    · exact hx b n r
    · rw [n] at r; cases r
  have hm : ∀ b u, H b = some u → ¬ Mut (some u) → b ≠ x := fun b u q nm z => by subst z; rw [q] at mu; exact nm mu
  refine ⟨fun b u q n _ _ => k b u (hb b n) q, fun b u q n _ _ => ⟨u.slots, k b u (hb b n) q⟩, fun b u q n _ => by rw [upd_ne (hx b n)]; exact n, fun b u q _ => ?_,
    fun b xs q => by rw [upd_ne (hm b _ q fun z => z)]; exact q, fun b u xs q => by rw [upd_ne (hm b _ q fun z => z)]; exact q, fun b ps q => ⟨#[], by rw [upd_ne (hm b _ q fun z => z), q]; simp⟩⟩
  by_cases hbe : b = e
  · subst hbe; exact heo
  · exact ⟨u, k b u hbe q⟩
theorem Un.mono (u : Un fs ex H H1 h h1) (hs : ∀ b ∈ fs, b ∈ fs') (hx : ∀ b ∈ ex, b ∈ ex') : Un fs' ex' H H1 h h1 :=
  ⟨fun b ob q n hb he => u.keep b ob q n (fun z => hb (hs b z)) fun z => he (hx b z), fun _ _ q n _ he => u.any q n fun z => he (hx _ z), fun b ob q n he => u.free b ob q n fun z => he (hx b z), fun b ob q he => u.there b ob q fun z => he (hx b z), u.tups, u.frzs, u.tbls⟩
end

def trk (h : Heap) (H : Hp) : List Addr := (List.range h.objs.size).filter fun a => (H a).isSome
def hidT (h : Heap) (H : Hp) : Heap := PySem.W.hideAll h (trk h H)
theorem hidT_size (h : Heap) (H : Hp) : (hidT h H).objs.size = h.objs.size := PySem.W.hideAll_size _ _
theorem hidT_get {h : Heap} {H : Hp} {b : Addr} {o : Obj} (e : h.get? b = some o) (n : H b = none) : (hidT h H).get? b = some o :=
  PySem.W.hideAll_get _ e fun hm => by
    have q : (H b).isSome = true := (List.mem_filter.mp hm).2
    rw [n] at q; simp at q
theorem of_hidT {h : Heap} {H : Hp} {b : Addr} {o : Obj} (e : (hidT h H).get? b = some o) : h.get? b = some o ∧ H b = none := by
  have e' : h.get? b = some o := PySem.W.of_hideAll (trk h H) e
  refine ⟨e', ?_⟩
  cases q : H b with
  | none => rfl
  | some x =>
    have hm : b ∈ trk h H := List.mem_filter.mpr ⟨List.mem_range.mpr (Heap.lt_size e'), by simp [q]⟩
    have z : (hidT h H).get? b = none := PySem.W.hideAll_none (trk h H) hm
    rw [z] at e; cases e

def allNews (g h : Heap) (L : Addr) : List (Addr × Obj) := (List.range h.objs.size).filterMap fun a => if a = L ∨ (g.get? a).isSome = true then none else (h.get? a).map fun o => (a, o)
def rest (g h : Heap) (L d : Addr) : List (Addr × Obj) := (allNews g h L).filter fun p => decide (p.1 ≠ d)
end L2

namespace L2
open PySem PySem.Spec PyProof.Rows

structure Mod (K : PySem.W.Frag) (mg : Str → Option Value) (base : Heap) : Prop where
  kin : K.In base
  glob : base.Ns mainGlobals mg
  blt : ∃ mb, base.Ns builtinsNs mb ∧ ∀ x : Str, x ≠ "__name__" → mb x = bootBuiltins x
  nolimit : base.NoLimit

structure Cx where
  prog : Program
  w : World
  K : PySem.W.Frag
  mg : Str → Option Value
  base : Heap
  A : Around
  N : List Str
  s₀ : Shared
  H₀ : Hp
  env : Env
  outer : List Env
  stack : List Env
  ex : List Addr
  fn : Str → Bool
  calm : Bool
  pn : List (Addr × Obj)
  xe : Value → Shared → Prop
def frs (l : List Env) : List Addr := l.filterMap (·.frame)
abbrev Cx.fs (X : Cx) : List Addr := frs X.outer

def Vis (sc : Scope) (x : Str) : Prop := sc.names.lookup x = some .local ∨ sc.names.lookup x = some .cell ∨ sc.names.lookup x = some .free
def Loc (sc : Scope) (x : Str) : Prop := sc.names.lookup x = some .local ∨ sc.names.lookup x = some .cell
def Look (env : Env) (h : Heap) (m : Str → Option Value) (x : Str) (u : Value) : Prop :=
  (env.kindOf x = some .local ∧ m x = some u) ∨ ((env.kindOf x = some .cell ∨ env.kindOf x = some .free) ∧ ∃ c, env.cells.lookup x = some c ∧ h.IsCell c (some u))

structure Cx.Ok (X : Cx) : Prop where
  mod : Mod X.K X.mg X.base
  kind : X.env.scope.kind = .function
  glob : X.env.globals = mainGlobals
  blt : X.env.builtins = builtinsNs
  above : X.s₀.heap.objs.size ≤ X.env.locals
  inj : ∀ x y c, X.env.cells.lookup x = some c → X.env.cells.lookup y = some c → x = y
  has : ∀ x, (X.env.kindOf x = some .cell ∨ X.env.kindOf x = some .free) → ∃ c, X.env.cells.lookup x = some c
  cab : ∀ x c, X.fn x = true → X.env.cells.lookup x = some c → X.s₀.heap.objs.size ≤ c
  hd : X.calm = true → X.A.handled = none
  frames : X.A.frames = some X.stack
  stk : X.stack = X.outer ∨ (X.stack = X.env :: X.outer ∧ X.env.frame = some X.env.locals)
  exf : ∀ b ∈ X.ex, b ≠ X.env.locals ∧ ∀ x c, X.env.cells.lookup x = some c → c ≠ b
  bs : ∀ b o, X.base.get? b = some o → X.s₀.heap.get? b = some o ∧ X.H₀ b = none
  bsz : X.base.objs.size ≤ X.s₀.heap.objs.size
  noex : ∀ b o, X.base.get? b = some o → b ∉ X.ex
  exfs : ∀ b ∈ X.ex, b ∉ X.fs
  funs : X.s₀.heap.FunFrames X.base X.outer
  frf : ∀ b ∈ X.fs, X.H₀ b = none

structure Inv (X : Cx) (pins : List (Addr × Obj)) (σ : List (Option V)) (H : Hp) (s : Shared) : Prop where
  ok : X.Ok
  os : s.os = X.s₀.os
  bare : AllBare s.gens
  base : Un X.fs X.ex X.H₀ H X.s₀.heap s.heap
  loc : ∃ m, s.heap.Ns X.env.locals m ∧ ∀ (i : Nat) (x : Str) (v : V), X.N[i]? = some x → σ[i]? = some (some v) → Vis X.env.scope x → ∃ u, RelV v u ∧ Look X.env s.heap m x u
  cell : ∀ x c, X.env.cells.lookup x = some c → ∃ v, s.heap.IsCell c v
  free : H X.env.locals = none
  freeC : ∀ x c, X.env.cells.lookup x = some c → H c = none
  pin : ∀ p ∈ X.pn ++ pins, s.heap.get? p.1 = some p.2 ∧ H p.1 = none ∧ p.1 ≠ X.env.locals ∧ p.1 ∉ X.fs ∧ ∀ v, p.2.data ≠ .cell v
  hok : HOk X.prog X.w H s.heap
  len : σ.length = X.N.length

section
variable {X : Cx} {pins : List (Addr × Obj)} {σ : List (Option V)} {H H' : Hp} {s : Shared} {h' : Heap}

theorem Cx.Ok.nofr (ok : X.Ok) {b : Addr} {o : Obj} (e : X.base.get? b = some o) : b ∉ X.fs := fun hb => by
  have := (ok.funs.mem hb).1
  rw [e] at this; cases this
theorem Inv.bs (I : Inv X pins σ H s) : ∀ b o, X.base.get? b = some o → s.heap.get? b = some o ∧ H b = none := fun b o e =>
  ⟨I.base.keep b o (I.ok.bs b o e).1 (I.ok.bs b o e).2 (I.ok.nofr e) (I.ok.noex b o e), I.base.free b o (I.ok.bs b o e).1 (I.ok.bs b o e).2 (I.ok.noex b o e)⟩
theorem Inv.bk (I : Inv X pins σ H s) : ∀ b o, X.base.get? b = some o → s.heap.get? b = some o := fun b o e => (I.bs b o e).1
theorem Inv.mod (I : Inv X pins σ H s) : Mod X.K X.mg X.base := I.ok.mod
theorem Inv.kIn (I : Inv X pins σ H s) : X.K.In s.heap := I.ok.mod.kin.keeps I.bk
theorem Inv.nolimit (I : Inv X pins σ H s) : s.heap.NoLimit := I.ok.mod.nolimit.keeps I.bk
theorem Inv.fr (I : Inv X pins σ H s) : ∃ m, Fr X.base X.env.locals s.heap m :=
  let ⟨m, hn, _⟩ := I.loc
  ⟨m, hn, I.bk, Nat.le_trans I.ok.bsz I.ok.above⟩
theorem Inv.lt (I : Inv X pins σ H s) : X.env.locals < s.heap.objs.size := let ⟨_, hn, _⟩ := I.loc; hn.lt
theorem Inv.sz (I : Inv X pins σ H s) : X.s₀.heap.objs.size ≤ s.heap.objs.size := Nat.le_trans I.ok.above (Nat.le_of_lt I.lt)
theorem Inv.nofs (I : Inv X pins σ H s) {a : Addr} (h : s.heap.objs.size ≤ a) : a ∉ X.fs := fun hb => by
  obtain ⟨_, o, ho, _⟩ := I.ok.funs.mem hb
  exact absurd (Nat.lt_of_lt_of_le (Heap.lt_size ho) (Nat.le_trans I.sz h)) (Nat.lt_irrefl _)
theorem Inv.cne (I : Inv X pins σ H s) : ∀ x c, X.env.cells.lookup x = some c → c ≠ X.env.locals := fun x c e z => by
  obtain ⟨v, o, ho, hd⟩ := I.cell x c e
  obtain ⟨m, ⟨o', es, ep, ho', hd', _⟩, _⟩ := I.loc
  rw [z, ho'] at ho; cases ho; rw [hd'] at hd; cases hd
theorem Inv.funs (I : Inv X pins σ H s) : s.heap.FunFrames X.base X.outer := by
  have all : ∀ (l : List Env), (∀ b ∈ frs l, b ∈ X.fs) → X.s₀.heap.FunFrames X.base l → s.heap.FunFrames X.base l := by
    intro l
    induction l with
    | nil => intro _ _; trivial
    | cons env r ih =>
      intro hs hl
      obtain ⟨hk, ⟨L, o, hf, hn, ho, hd⟩, hr⟩ := hl
      have hL : L ∈ X.fs := hs L (by unfold frs; rw [List.filterMap_cons, hf]; exact List.mem_cons_self)
      obtain ⟨sl, e⟩ := I.base.slot L o ho (I.ok.frf L hL) hL fun z => I.ok.exfs L z hL
      exact ⟨hk, ⟨L, _, hf, hn, e, hd⟩, ih (fun b hb => hs b (by unfold frs; rw [List.filterMap_cons, hf]; exact List.mem_cons_of_mem _ hb)) hr⟩
  exact all X.outer (fun _ hb => hb) I.ok.funs

theorem Inv.stack (I : Inv X pins σ H s) : s.heap.FunFrames X.base X.stack := by
  rcases I.ok.stk with e | ⟨e, hf⟩
  · rw [e]; exact I.funs
  · rw [e]
    obtain ⟨m, hn, _⟩ := I.loc
    refine .cons (by rw [I.ok.kind]; decide) hf hn ?_ I.funs
    exact Heap.get?_none_of_le (Nat.le_trans I.ok.bsz I.ok.above)
theorem Inv.stkSub (I : Inv X pins σ H s) : ∀ b ∈ frs X.stack, b ∈ X.env.locals :: X.fs := fun b hb => by
  rcases I.ok.stk with e | ⟨e, hf⟩
  · rw [e] at hb; exact List.mem_cons_of_mem _ hb
  · rw [e] at hb
    unfold frs at hb
    rw [List.filterMap_cons, hf] at hb
    exact hb
theorem Inv.stkFree (I : Inv X pins σ H s) : ∀ b ∈ frs X.stack, H b = none := fun b hb => by
  rcases List.mem_cons.mp (I.stkSub b hb) with e | hb
  · rw [e]; exact I.free
  · obtain ⟨_, o, ho, _⟩ := I.ok.funs.mem hb
    exact I.base.free b o ho (I.ok.frf b hb) fun z => I.ok.exfs b z hb

theorem Inv.step {g' : Array GenState} {t' : Nat} {d' : Drawn} {ch : List Addr} (I : Inv X pins σ H s)
    (hch : ∀ b ∈ ch, (b ∈ X.ex ∨ X.s₀.heap.objs.size ≤ b) ∧ b ≠ X.env.locals ∧ (∀ x c, X.env.cells.lookup x = some c → c ≠ b) ∧ ∀ p ∈ X.pn ++ pins, p.1 ≠ b)
    (keep : ∀ b o, b ≠ X.env.locals → b ∉ X.fs → b ∉ ch → s.heap.get? b = some o → H b = none → h'.get? b = some o)
    (slot : ∀ b o, b ≠ X.env.locals → b ∈ X.fs → b ∉ ch → s.heap.get? b = some o → H b = none → ∃ sl, h'.get? b = some { o with slots := sl }) (free : ∀ b o, b ∉ ch → s.heap.get? b = some o → H b = none → H' b = none)
    (there : ∀ b o, b ∉ ch → s.heap.get? b = some o → ∃ o', h'.get? b = some o')
    (tups : ∀ b xs, H b = some (.tup xs) → H' b = some (.tup xs)) (frzs : ∀ b o u, H b = some (.frz o u) → H' b = some (.frz o u)) (tbls : ∀ b ps, H b = some (.tbl ps) → ∃ more, H' b = some (.tbl (ps ++ more)))
    (ns : ∀ m, s.heap.Ns X.env.locals m → h'.Ns X.env.locals m) (hok : HOk X.prog X.w H' h') (hg : AllBare g') :
    Inv X pins σ H' { s with heap := h', gens := g', drawn := d', toks := t' } := by
  have neL : ∀ b o, X.s₀.heap.get? b = some o → b ≠ X.env.locals := fun b o e => Nat.ne_of_lt (Nat.lt_of_lt_of_le (Heap.lt_size e) I.ok.above)
  have neC : ∀ b o, X.s₀.heap.get? b = some o → b ∉ X.ex → b ∉ ch := fun b o e hx hb => by
    rcases (hch b hb).1 with z | z
    · exact hx z
    · exact absurd (Nat.lt_of_lt_of_le (Heap.lt_size e) z) (Nat.lt_irrefl _)
  have cellK : ∀ x c, X.env.cells.lookup x = some c → ∀ v, s.heap.IsCell c v → h'.IsCell c v := fun x c e v ⟨o, ho, hd⟩ => by
    have nch : c ∉ ch := fun z => (hch c z).2.2.1 x c e rfl
    by_cases hc : c ∈ X.fs
    · obtain ⟨sl, q⟩ := slot c o (I.cne x c e) hc nch ho (I.freeC x c e)
      exact ⟨_, q, hd⟩
    · exact ⟨o, keep c o (I.cne x c e) hc nch ho (I.freeC x c e), hd⟩
  refine ⟨I.ok, I.os, hg, ⟨fun b o e n hb hx => ?_, fun b o e n hb hx => ?_, fun b o e n hx => ?_, fun b o e hx => ?_, fun b xs e => tups b xs (I.base.tups b xs e), fun b o xs e => frzs b o xs (I.base.frzs b o xs e), fun b ps e => ?_⟩, ?_, fun x c e => ?_, ?_, fun x c e => ?_, fun p hp => ?_, hok, I.len⟩
  · exact keep b o (neL b o e) hb (neC b o e hx) (I.base.keep b o e n hb hx) (I.base.free b o e n hx)
  · obtain ⟨sl, e1⟩ := I.base.slot b o e n hb hx
    obtain ⟨sl', e2⟩ := slot b _ (neL b o e) hb (neC b o e hx) e1 (I.base.free b o e n hx)
    exact ⟨sl', e2⟩
  · obtain ⟨o', e1⟩ := I.base.there b o e hx
    exact free b o' (neC b o e hx) e1 (I.base.free b o e n hx)
  · obtain ⟨o', e1⟩ := I.base.there b o e hx
    exact there b o' (neC b o e hx) e1
  · obtain ⟨m1, e1⟩ := I.base.tbls b ps e
    obtain ⟨m2, e2⟩ := tbls b _ e1
    exact ⟨m1 ++ m2, by rw [e2, Array.append_assoc]⟩
  · obtain ⟨m, hn, hl⟩ := I.loc
    refine ⟨m, ns m hn, fun i x v e1 e2 e3 => ?_⟩
    obtain ⟨u, r, l⟩ := hl i x v e1 e2 e3
    refine ⟨u, r, ?_⟩
    rcases l with l | ⟨k, c, e, z⟩
    · exact .inl l
    · exact .inr ⟨k, c, e, cellK x c e _ z⟩
  · obtain ⟨v, z⟩ := I.cell x c e
    exact ⟨v, cellK x c e v z⟩
  · obtain ⟨m, ⟨o, _, _, ho, _⟩, _⟩ := I.loc
    exact free _ o (fun z => (hch _ z).2.1 rfl) ho I.free
  · obtain ⟨v, o, ho, hd⟩ := I.cell x c e
    exact free c o (fun z => (hch c z).2.2.1 x c e rfl) ho (I.freeC x c e)
  · obtain ⟨e, n, ne, nf, d⟩ := I.pin p hp
    have nch : p.1 ∉ ch := fun z => (hch p.1 z).2.2.2 p hp rfl
    exact ⟨keep p.1 p.2 ne nf nch e n, free p.1 p.2 nch e n, ne, nf, d⟩
theorem Inv.un {t' : Nat} (I : Inv X pins σ H s) (u : Un X.fs [] H H' s.heap h') (hok : HOk X.prog X.w H' h') : Inv X pins σ H' { s with heap := h', toks := t' } := by
  obtain ⟨m, ⟨o, es, ep, ho, r⟩, _⟩ := id I.loc
  obtain ⟨sl, hL⟩ := u.any ho I.free (by simp)
  exact I.step (g' := s.gens) (d' := s.drawn) (ch := []) (fun _ z => nomatch z) (fun b o _ hb _ e n => u.keep b o e n hb (by simp)) (fun b o _ hb _ e n => u.slot b o e n hb (by simp)) (fun b o _ e n => u.free b o e n (by simp)) (fun b o _ e => u.there b o e (by simp)) u.tups u.frzs u.tbls (fun m' hm => by
    obtain ⟨o', es', ep', ho', r'⟩ := hm
    rw [ho] at ho'; cases ho'
    exact ⟨_, es', ep', hL, r'⟩) hok I.bare
theorem Inv.call {g' : Array GenState} {t' : Nat} {d' : Drawn} {ch : List Addr} (I : Inv X pins σ H s) (u : Un (frs X.stack) ch H H' s.heap h') (hok : HOk X.prog X.w H' h') (hg : AllBare g')
    (hch : ∀ b ∈ ch, (b ∈ X.ex ∨ X.s₀.heap.objs.size ≤ b) ∧ b ≠ X.env.locals ∧ (∀ x c, X.env.cells.lookup x = some c → c ≠ b) ∧ ∀ p ∈ X.pn ++ pins, p.1 ≠ b) :
    Inv X pins σ H' { s with heap := h', gens := g', drawn := d', toks := t' } := by
  obtain ⟨m, ⟨o, es, ep, ho, r⟩, _⟩ := id I.loc
  obtain ⟨sl, hL⟩ := u.any ho I.free fun z => (hch _ z).2.1 rfl
  exact I.step (ch := ch) hch (fun b o hL hb hc e n => u.keep b o e n (fun z => (List.mem_cons.mp (I.stkSub b z)).elim hL hb) hc) (fun b o _ _ hc e n => u.any e n hc) (fun b o hc e n => u.free b o e n hc) (fun b o hc e => u.there b o e hc) u.tups u.frzs u.tbls (fun m' hm => by
    obtain ⟨o', es', ep', ho', r'⟩ := hm
    rw [ho] at ho'; cases ho'
    exact ⟨_, es', ep', hL, r'⟩) hok hg
theorem Inv.turned {t' : Nat} {it : Addr} (I : Inv X pins σ H s) (k : ∀ b o, b ≠ it → s.heap.get? b = some o → h'.get? b = some o) (hn : H it = none) (hL : it ≠ X.env.locals)
    (h1 : it ∈ X.ex ∨ X.s₀.heap.objs.size ≤ it) (h2 : ∀ x c, X.env.cells.lookup x = some c → c ≠ it) (h3 : ∀ p ∈ X.pn ++ pins, p.1 ≠ it) : Inv X pins σ H { s with heap := h', toks := t' } := by
  have nit : ∀ b u, H b = some u → b ≠ it := fun b u e z => by rw [z, hn] at e; cases e
  refine I.step (g' := s.gens) (d' := s.drawn) (ch := [it]) (fun b hb => ?_) (fun b o _ _ hc e _ => k b o (fun z => hc (by simp [z])) e) (fun b o _ _ hc e _ => ⟨o.slots, k b o (fun z => hc (by simp [z])) e⟩) (fun _ _ _ _ n => n)
    (fun b o hc e => ⟨o, k b o (fun z => hc (by simp [z])) e⟩) (fun _ _ e => e) (fun _ _ _ e => e) (fun b ps e => ⟨#[], by rw [e]; simp⟩) (fun m hm => ?_) (fun b u e => ?_) I.bare
  · have e : b = it := by simpa using hb
    subst e
    exact ⟨h1, hL, h2, h3⟩
  · obtain ⟨o, es, ep, ho, r⟩ := hm
    exact ⟨o, es, ep, k _ o (Ne.symm hL) ho, r⟩
  · refine (I.hok b u e).stay (fun c v hc q => k c v ?_ q) (fun _ q => q) fun _ _ q => q
    rcases hc with z | z
    · rw [z]; exact nit b u e
    · exact nit c _ z
theorem Inv.tok (I : Inv X pins σ H s) (t : Nat) : Inv X pins σ H { s with toks := t } := I.un (h' := s.heap) (t' := t) Un.refl I.hok
theorem Inv.kept {t' : Nat} (I : Inv X pins σ H s) (k : ∀ b u, s.heap.get? b = some u → h'.get? b = some u) : Inv X pins σ H { s with heap := h', toks := t' } := I.un (Un.kept k) (I.hok.kept k)
theorem Inv.laid {a : Addr} {o : HO} {t' : Nat} (I : Inv X pins σ H s) (k : ∀ b u, s.heap.get? b = some u → h'.get? b = some u) (hp : s.heap.objs.size ≤ a) (new : ObjOk X.prog X.w (upd H a o) h' a o) :
    Inv X pins σ (upd H a o) { s with heap := h', toks := t' } := I.un (Un.laid k hp (I.hok.fresh hp)) (I.hok.laid k hp new)
theorem Inv.write {x e : Addr} {o : HO} {t' : Nat} (I : Inv X pins σ H s) (mu : Mut (H x)) (he : e = x ∨ H e = some (.own x)) (k : ∀ b u, b ≠ e → s.heap.get? b = some u → h'.get? b = some u) (heo : ∃ u, h'.get? e = some u)
    (new : ObjOk X.prog X.w (upd H x o) h' x o) : Inv X pins σ (upd H x o) { s with heap := h', toks := t' } := I.un (Un.write mu he k heo) (I.hok.write mu he k heo new)
theorem Inv.pins_of {pins' : List (Addr × Obj)} (I : Inv X pins σ H s) (h : ∀ p ∈ pins', s.heap.get? p.1 = some p.2 ∧ H p.1 = none ∧ p.1 ≠ X.env.locals ∧ p.1 ∉ X.fs ∧ ∀ v, p.2.data ≠ .cell v) : Inv X pins' σ H s :=
  ⟨I.ok, I.os, I.bare, I.base, I.loc, I.cell, I.free, I.freeC, fun p hp => (List.mem_append.mp hp).elim (fun z => I.pin p (List.mem_append_left _ z)) (h p), I.hok, I.len⟩

theorem nodup_ix {N : List Str} (hN : N.Nodup) {i j : Nat} {x : Str} (a : N[i]? = some x) (b : N[j]? = some x) : i = j := by
  obtain ⟨h1, e1⟩ := List.getElem?_eq_some_iff.mp a
  obtain ⟨h2, e2⟩ := List.getElem?_eq_some_iff.mp b
  exact (List.getElem_inj hN).mp (e1.trans e2.symm)

theorem store_ok2 {M : Model} {A : Around} {E : Value → Shared → Prop} {i : Nat} {x : Str} {v : V} {u : Value} {Q : Unit → Shared → Prop} (I : Inv X pins σ H s) (hN : X.N.Nodup) (hi : X.N[i]? = some x) (hx : Loc X.env.scope x) (r : RelV v u)
    (h : ∀ s', Inv X pins (σ.set i (some v)) H s' → (∃ a, Heap.SameBut a s.heap s'.heap ∧ (a = X.env.locals ∨ X.env.cells.lookup x = some a)) → Q () s') (hf : X.fn x = true ∨ X.env.scope.names.lookup x = some .local := by first | exact .inl rfl | exact .inr rfl | assumption) : wpAny M A (storeName X.env x u) Q E s := by
  obtain ⟨m, hn, hl⟩ := id I.loc
  have hcls : (X.env.scope.kind == .class || (X.env.scope.kind == .module && X.env.locals != X.env.globals)) = false := by rw [I.ok.kind]; rfl
  have hiσ : i < σ.length := by rw [I.len]; exact (List.getElem?_eq_some_iff.mp hi).1
  have cne := I.cne
  have tracked : ∀ {a : Addr} {h' : Heap}, (∃ o, s.heap.get? a = some o ∧ H a = none) → Heap.SameBut a s.heap h' → HOk X.prog X.w H h' := fun {a h'} ha hs b ob e => by
    obtain ⟨_, _, hfree⟩ := ha
    refine (I.hok b ob e).stay (fun c w' hc q => (hs.2 c ?_).trans q) (fun _ q => q) fun _ _ q => q
    rintro rfl
    rcases hc with rfl | hc
    · rw [hfree] at e; cases e
    · rw [hfree] at hc; cases hc
  rcases hx with hk | hk
  · refine wpAny_storeName_local hk hn (fun h' hn' hs => ?_) hcls
    obtain ⟨oL, _, _, hoL, _⟩ := id hn
    refine h _ ⟨I.ok, I.os, I.bare, ⟨fun b o e n hb hx => ?_, fun b o e n hb hx => ?_, I.base.free, fun b o e hx => ?_, I.base.tups, I.base.frzs, I.base.tbls⟩, ⟨_, hn', fun j y v' e1 e2 e3 => ?_⟩, fun y c e => ?_, I.free, I.freeC, fun p hp => ?_, tracked ⟨oL, hoL, I.free⟩ hs, by simpa using I.len⟩ ⟨_, hs, .inl rfl⟩
    · exact (hs.2 b (Nat.ne_of_lt (Nat.lt_of_lt_of_le (Heap.lt_size e) I.ok.above))).trans (I.base.keep b o e n hb hx)
    · obtain ⟨sl, e1⟩ := I.base.slot b o e n hb hx
      exact ⟨sl, (hs.2 b (Nat.ne_of_lt (Nat.lt_of_lt_of_le (Heap.lt_size e) I.ok.above))).trans e1⟩
    · obtain ⟨o', e1⟩ := I.base.there b o e hx
      exact ⟨o', (hs.2 b (Nat.ne_of_lt (Nat.lt_of_lt_of_le (Heap.lt_size e) I.ok.above))).trans e1⟩
    · by_cases hj : j = i
      · subst hj
        rw [hi] at e1; cases e1
        rw [List.getElem?_set_self hiσ] at e2
        cases e2
        exact ⟨u, r, .inl ⟨hk, by simp⟩⟩
      · rw [List.getElem?_set_ne (Ne.symm hj)] at e2
        obtain ⟨u', r', q⟩ := hl j y v' e1 e2 e3
        refine ⟨u', r', ?_⟩
        rcases q with ⟨k, e⟩ | ⟨k, c, e, z⟩
        · refine .inl ⟨k, ?_⟩
          have : y ≠ x := fun e => hj (nodup_ix hN e1 (e ▸ hi))
          simp [this, e]
        · exact .inr ⟨k, c, e, z.sameBut hs (cne y c e)⟩
    · obtain ⟨w', z⟩ := I.cell y c e
      exact ⟨w', z.sameBut hs (cne y c e)⟩
    · obtain ⟨e, n, ne, nf, d⟩ := I.pin p hp
      exact ⟨(hs.2 p.1 ne).trans e, n, ne, nf, d⟩
  · have hfn : X.fn x = true := by
      rcases hf with z | z
      · exact z
      · rw [z] at hk; cases hk
    obtain ⟨c, hc⟩ := I.ok.has x (.inl hk)
    obtain ⟨w', z⟩ := I.cell x c hc
    refine wpAny_storeName_cell I.ok.kind hk hc z (fun h' hc' hs => ?_)
    obtain ⟨oc, hoc, hocd⟩ := id z
    refine h { s with heap := h' } ⟨I.ok, I.os, I.bare, ⟨fun b o e n hb hx => ?_, fun b o e n hb hx => ?_, I.base.free, fun b o e hx => ?_, I.base.tups, I.base.frzs, I.base.tbls⟩, ⟨m, hn.sameBut hs (Ne.symm (cne x c hc)), fun j y v' e1 e2 e3 => ?_⟩, fun y c' e => ?_, I.free, I.freeC, fun p hp => ?_, tracked ⟨oc, hoc, I.freeC x c hc⟩ hs, by simpa using I.len⟩ ⟨c, hs, .inr hc⟩
    · exact (hs.2 b (Nat.ne_of_lt (Nat.lt_of_lt_of_le (Heap.lt_size e) (I.ok.cab x c hfn hc)))).trans (I.base.keep b o e n hb hx)
    · obtain ⟨sl, e1⟩ := I.base.slot b o e n hb hx
      exact ⟨sl, (hs.2 b (Nat.ne_of_lt (Nat.lt_of_lt_of_le (Heap.lt_size e) (I.ok.cab x c hfn hc)))).trans e1⟩
    · obtain ⟨o', e1⟩ := I.base.there b o e hx
      exact ⟨o', (hs.2 b (Nat.ne_of_lt (Nat.lt_of_lt_of_le (Heap.lt_size e) (I.ok.cab x c hfn hc)))).trans e1⟩
    · by_cases hj : j = i
      · subst hj
        rw [hi] at e1; cases e1
        rw [List.getElem?_set_self hiσ] at e2
        cases e2
        exact ⟨u, r, .inr ⟨.inl hk, c, hc, hc'⟩⟩
      · rw [List.getElem?_set_ne (Ne.symm hj)] at e2
        obtain ⟨u', r', q⟩ := hl j y v' e1 e2 e3
        refine ⟨u', r', ?_⟩
        rcases q with q | ⟨k, c', e, z'⟩
        · exact .inl q
        · refine .inr ⟨k, c', e, z'.sameBut hs ?_⟩
          rintro rfl
          exact hj (nodup_ix hN e1 (I.ok.inj _ _ _ e hc ▸ hi))
    · by_cases hcc : c' = c
      · subst hcc; exact ⟨_, hc'⟩
      · obtain ⟨w2, z2⟩ := I.cell y c' e
        exact ⟨w2, z2.sameBut hs hcc⟩
    · obtain ⟨e, n, ne, nf, d⟩ := I.pin p hp
      refine ⟨(hs.2 p.1 ?_).trans e, n, ne, nf, d⟩
      intro q
      rw [q, hoc] at e
      have q' : oc = p.2 := Option.some.inj e
      exact d w' (by rw [← q']; exact hocd)
theorem store_ok {M : Model} {A : Around} {E : Value → Shared → Prop} {i : Nat} {x : Str} {v : V} {u : Value} {Q : Unit → Shared → Prop} (I : Inv X pins σ H s) (hN : X.N.Nodup) (hi : X.N[i]? = some x) (hx : Loc X.env.scope x) (r : RelV v u)
    (h : ∀ s', Inv X pins (σ.set i (some v)) H s' → Q () s') (hf : X.fn x = true ∨ X.env.scope.names.lookup x = some .local := by first | exact .inl rfl | exact .inr rfl | assumption) : wpAny M A (storeName X.env x u) Q E s :=
  store_ok2 I hN hi hx r (fun s' I' _ => h s' I') hf
theorem Inv.call' {s' : Shared} {ch : List Addr} (I : Inv X pins σ H s) (ho : s'.os = s.os) (u : Un (frs X.stack) ch H H' s.heap s'.heap) (hok : HOk X.prog X.w H' s'.heap) (hg : AllBare s'.gens)
    (hch : ∀ b ∈ ch, (b ∈ X.ex ∨ X.s₀.heap.objs.size ≤ b) ∧ b ≠ X.env.locals ∧ (∀ x c, X.env.cells.lookup x = some c → c ≠ b) ∧ ∀ p ∈ X.pn ++ pins, p.1 ≠ b) : Inv X pins σ H' s' := by
  obtain ⟨h', g', d', t', o'⟩ := s'
  have e : o' = s.os := ho
  subst e
  exact I.call (g' := g') (t' := t') (d' := d') u hok hg hch
end

abbrev XK := Value → Option Addr → Hp → Prop
abbrev St := List (Option V)
abbrev VK := V → Hp → Prop
abbrev TE := St → Hp → VK → Prop
abbrev TT := St → Hp → (Bool → Hp → Prop) → Prop
abbrev TA := St → Hp → (List V → Hp → Prop) → Prop
structure Ends where
  nx : St → Hp → Prop
  rt : VK
  bk : St → Hp → Prop := fun _ _ => False
  ct : St → Hp → Prop := fun _ _ => False
abbrev TS := Ends → St → Hp → Prop

def EP (X : Cx) (pins : List (Addr × Obj)) (σ : St) (Q : VK) (u : Value) (s' : Shared) : Prop := ∃ v H', Inv X pins σ H' s' ∧ RelV v u ∧ Q v H'
def TP (X : Cx) (pins : List (Addr × Obj)) (σ : St) (Q : Bool → Hp → Prop) (b : Bool) (s' : Shared) : Prop := ∃ H', Inv X pins σ H' s' ∧ Q b H'
def AP (X : Cx) (pins : List (Addr × Obj)) (σ : St) (Q : List V → Hp → Prop) (us : List Value) (s' : Shared) : Prop := ∃ vs H', Inv X pins σ H' s' ∧ Vals vs us ∧ Q vs H'
def SP (X : Cx) (pins : List (Addr × Obj)) (D : Ends) (f : Flow) (s' : Shared) : Prop :=
  match f with
  | .next => ∃ σ' H', Inv X pins σ' H' s' ∧ D.nx σ' H'
  | .brk => ∃ σ' H', Inv X pins σ' H' s' ∧ D.bk σ' H'
  | .cont => ∃ σ' H', Inv X pins σ' H' s' ∧ D.ct σ' H'
  | .ret u => ∃ v σ' H', Inv X pins σ' H' s' ∧ RelV v u ∧ D.rt v H'

def PE (X : Cx) (e : Expr) (t : TE) : Prop :=
  ∀ (pins : List (Addr × Obj)) (s : Shared) (σ : St) (H : Hp) (Q : VK), Inv X pins σ H s → t σ H Q → wpAny (model X.prog X.w) X.A (eval e X.env) (EP X pins σ Q) X.xe s
def PT (X : Cx) (e : Expr) (t : TT) : Prop :=
  ∀ (pins : List (Addr × Obj)) (s : Shared) (σ : St) (H : Hp) (Q : Bool → Hp → Prop), Inv X pins σ H s → t σ H Q → wpAny (model X.prog X.w) X.A (isTrue e X.env (eval e X.env)) (TP X pins σ Q) X.xe s
def PW (X : Cx) (e : Expr) (t : TT) : Prop :=
  ∀ (whole : Sem Value) (pins : List (Addr × Obj)) (s : Shared) (σ : St) (H : Hp) (Q : Bool → Hp → Prop), Inv X pins σ H s → t σ H Q → wpAny (model X.prog X.w) X.A (isTrue e X.env whole) (TP X pins σ Q) X.xe s
theorem PW.pt {X : Cx} {e : Expr} {t : TT} (h : PW X e t) : PT X e t := h _
def PA (X : Cx) (es : List Expr) (t : TA) : Prop :=
  ∀ (pos : Pos) (pins : List (Addr × Obj)) (s : Shared) (σ : St) (H : Hp) (Q : List V → Hp → Prop), Inv X pins σ H s → t σ H Q → wpAny (model X.prog X.w) X.A (spliced (backTo pos (starEach es X.env))) (AP X pins σ Q) X.xe s
def PS (X : Cx) (st : Stmt) (t : TS) : Prop :=
  ∀ (pins : List (Addr × Obj)) (s : Shared) (σ : St) (H : Hp) (D : Ends), Inv X pins σ H s → t D σ H → wpAny (model X.prog X.w) X.A (exec st X.env) (SP X pins D) X.xe s
def PSs (X : Cx) (st : List Stmt) (t : TS) : Prop :=
  ∀ (pins : List (Addr × Obj)) (s : Shared) (σ : St) (H : Hp) (D : Ends), Inv X pins σ H s → t D σ H → wpAny (model X.prog X.w) X.A (execs st X.env) (SP X pins D) X.xe s
theorem thn {α : Type} {t : Sem α} {Q Q' : α → Shared → Prop} {M : Model} {A : Around} {E : Value → Shared → Prop} {s : Shared} (h : wpAny M A t Q E s) (hQ : ∀ a s, Q a s → Q' a s) : wpAny M A t Q' E s := wpAny_mono h hQ fun _ _ x => x
end L2

namespace L2
open PySem PySem.Spec PyProof.Rows
section
variable {X : Cx}

def tVar (i : Nat) : TE := fun σ H Q => ∃ v, σ[i]? = some (some v) ∧ Q v H
def tC (v : V) : TE := fun _ H Q => Q v H
theorem pe_var {i : Nat} {x : Str} {pos : Pos} (hN : X.N[i]? = some x) (hv : Vis X.env.scope x) (hd : (x == ("__debug__" : Str)) = false := by decide) (hcd : (x == ("__classdict__" : Str)) = false := by decide) : PE X (.Name x pos) (tVar i) := by
  intro pins s σ H Q I h
  obtain ⟨v, e, h⟩ := h
  obtain ⟨m, hn, hl⟩ := I.loc
  obtain ⟨u, r, l⟩ := hl i x v hN e hv
  have fin : EP X pins σ Q u s := ⟨v, H, I, r, h⟩
  rcases l with ⟨hk, hm⟩ | ⟨hk, c, hc, hcell⟩
  · exact wpAny_Name (wpAny_loadName_local I.ok.kind hk hn hm fin) hd
  · rcases hk with hk | hk
    · exact wpAny_Name (wpAny_loadName_cell I.ok.kind hk hc hcell fin) hd
    · exact wpAny_Name (wpAny_loadName_free I.ok.kind hk hc hcell fin hcd) hd
theorem pe_int {i j pos} : PE X (.Constant (.int i) j pos) (tC (.int i)) := fun _ _ _ H _ I h => wpAny_Constant_int ⟨.int i, H, I.tok _, ⟨_, rfl⟩, h⟩
theorem pe_bl {b j pos} : PE X (.Constant (.bool b) j pos) (tC (.bl b)) := fun _ _ _ H _ I h => Constant_bool ⟨.bl b, H, I, rfl, h⟩
theorem pe_non {j pos} : PE X (.Constant .none j pos) (tC .non) := fun _ _ _ H _ I h => Constant_none ⟨.non, H, I, rfl, h⟩
theorem pe_str {x j pos} : PE X (.Constant (.str x) j pos) (tC (.str x)) := fun _ _ _ H _ I h => Calls.Constant_str ⟨.str x, H, I.tok _, ⟨_, rfl⟩, h⟩

def Gl (X : Cx) (x : Str) : Prop := X.env.kindOf x = some .globalImplicit
theorem ld_glob {E : Value → Shared → Prop} {pins : List (Addr × Obj)} {s : Shared} {σ : St} {H : Hp} {x : Str} {u : Value} {pos : Pos} {Q : Value → Shared → Prop} (I : Inv X pins σ H s) (hg : Gl X x) (hm : X.mg x = some u) (h : Q u s)
    (hd : (x == ("__debug__" : Str)) = false := by decide) : wpAny (model X.prog X.w) X.A (eval (.Name x pos) X.env) Q E s :=
  Calls.Name_function_global I.ok.kind hg (Calls.loadGlobal_global (by rw [I.ok.glob]; exact I.mod.glob.keeps I.bk) hm h) hd
theorem ld_blt {E : Value → Shared → Prop} {pins : List (Addr × Obj)} {s : Shared} {σ : St} {H : Hp} {x : Str} {u : Value} {pos : Pos} {Q : Value → Shared → Prop} (I : Inv X pins σ H s) (hg : Gl X x) (hm : X.mg x = none) (hv : bootBuiltins x = some u) (h : Q u s)
    (hn : x ≠ "__name__" := by decide) (hd : (x == ("__debug__" : Str)) = false := by decide) : wpAny (model X.prog X.w) X.A (eval (.Name x pos) X.env) Q E s := by
  obtain ⟨mb, h1, h2⟩ := I.mod.blt
  exact Calls.Name_function_global I.ok.kind hg (Calls.loadGlobal_builtin (by rw [I.ok.glob]; exact I.mod.glob.keeps I.bk) hm (by rw [I.ok.blt]; exact h1.keeps I.bk) ((h2 x hn).trans hv) h) hd
theorem pe_glob {x : Str} {v : V} {u : Value} {pos : Pos} (hg : Gl X x) (hm : X.mg x = some u) (r : RelV v u) (hd : (x == ("__debug__" : Str)) = false := by decide) : PE X (.Name x pos) (tC v) :=
  fun _ _ _ H _ I h => ld_glob I hg hm ⟨v, H, I, r, h⟩ hd
theorem pe_bltn {x : Str} {v : V} {u : Value} {pos : Pos} (hg : Gl X x) (hm : X.mg x = none) (hv : bootBuiltins x = some u) (r : RelV v u) (hn : x ≠ "__name__" := by decide) (hd : (x == ("__debug__" : Str)) = false := by decide) : PE X (.Name x pos) (tC v) :=
  fun _ _ _ H _ I h => ld_blt I hg hm hv ⟨v, H, I, r, h⟩ hn hd

variable {a b : Expr} {ta tb : TE} {pos : Pos}
def tB (t : TE) : TT := fun σ H Q => t σ H fun x H1 => ∃ c, x = .bl c ∧ Q c H1
theorem pt_val {e : Expr} {t : TE} (h : PE X e t) (he : ∀ whole, isTrue e X.env whole = (do let v ← whole; standAt e.pos; holding [v] (truthy v)) := by intro _; rfl) : PT X e (tB t) := by
  intro pins s σ H Q I hw
  refine isTrue_plain (thn (h pins s σ H _ I hw) fun v s1 ⟨x, H1, I1, r1, q1⟩ => ?_) (he _)
  obtain ⟨d, rfl, q⟩ := q1
  cases r1
  exact wpAny_truthy_bool ⟨H1, I1, q⟩

variable {tA tB' : TT} {rest : List Expr}
def tAnd (t u : TT) : TT := fun σ H Q => t σ H fun c H1 => if c = true then u σ H1 Q else Q false H1
def tOr (t u : TT) : TT := fun σ H Q => t σ H fun c H1 => if c = true then Q true H1 else u σ H1 Q
def tNot (t : TT) : TT := fun σ H Q => t σ H fun c H1 => Q (!c) H1
theorem pw_and1 (ha : PT X a tA) : PW X (.BoolOp .And [a] pos) tA := by
  intro wh pins s σ H Q I h
  refine isTrue_and (thn (ha pins s σ H Q I h) fun c s1 e => ?_)
  cases c with
  | true => exact isTrue_and_nil e
  | false => exact e
theorem pw_or1 (ha : PT X a tA) : PW X (.BoolOp .Or [a] pos) tA := by
  intro wh pins s σ H Q I h
  refine isTrue_or (thn (ha pins s σ H Q I h) fun c s1 e => ?_)
  cases c with
  | false => exact isTrue_or_nil e
  | true => exact e
theorem pw_and (ha : PT X a tA) (hb : PW X (.BoolOp .And (b :: rest) pos) tB') : PW X (.BoolOp .And (a :: b :: rest) pos) (tAnd tA tB') := by
  intro wh pins s σ H Q I h
  refine isTrue_and (thn (ha pins s σ H _ I h) fun c s1 ⟨H1, I1, q1⟩ => ?_)
  cases c with
  | true => exact hb wh pins s1 σ H1 Q I1 q1
  | false => exact ⟨H1, I1, q1⟩
theorem pw_or (ha : PT X a tA) (hb : PW X (.BoolOp .Or (b :: rest) pos) tB') : PW X (.BoolOp .Or (a :: b :: rest) pos) (tOr tA tB') := by
  intro wh pins s σ H Q I h
  refine isTrue_or (thn (ha pins s σ H _ I h) fun c s1 ⟨H1, I1, q1⟩ => ?_)
  cases c with
  | true => exact ⟨H1, I1, q1⟩
  | false => exact hb wh pins s1 σ H1 Q I1 q1
theorem pt_not (ha : PT X a tA) : PT X (.UnaryOp .Not a pos) (tNot tA) := by
  intro pins s σ H Q I h
  exact isTrue_not (ha pins s σ H (fun c H1 => Q (!c) H1) I h)
def tAndV (ta tb : TE) : TE := fun σ H Q => ta σ H fun x H1 => ∃ c, x = .bl c ∧ if c = true then tb σ H1 Q else Q (.bl false) H1
def tOrV (ta tb : TE) : TE := fun σ H Q => ta σ H fun x H1 => ∃ c, x = .bl c ∧ if c = true then Q (.bl true) H1 else tb σ H1 Q
def tNotV (ta : TE) : TE := fun σ H Q => ta σ H fun x H1 => ∃ c, x = .bl c ∧ Q (.bl (!c)) H1
theorem pe_one {op} {t : TE} (h : PE X a t) : PE X (.BoolOp op [a] pos) t := fun pins s σ H Q I hw => BoolOp_one (h pins s σ H Q I hw)
theorem pe_and (ha : PE X a ta) (hb : PE X (.BoolOp .And (b :: rest) pos) tb) : PE X (.BoolOp .And (a :: b :: rest) pos) (tAndV ta tb) := by
  intro pins s σ H Q I h
  refine BoolOp_and (thn (ha pins s σ H _ I h) fun v s1 ⟨x, H1, I1, r1, q1⟩ => ?_)
  obtain ⟨c, rfl, q1⟩ := q1
  cases r1
  refine wpAny_truthy_bool ?_
  cases c with
  | true => exact hb pins s1 σ H1 Q I1 q1
  | false => exact ⟨.bl false, H1, I1, rfl, q1⟩
theorem pe_or (ha : PE X a ta) (hb : PE X (.BoolOp .Or (b :: rest) pos) tb) : PE X (.BoolOp .Or (a :: b :: rest) pos) (tOrV ta tb) := by
  intro pins s σ H Q I h
  refine BoolOp_or (thn (ha pins s σ H _ I h) fun v s1 ⟨x, H1, I1, r1, q1⟩ => ?_)
  obtain ⟨c, rfl, q1⟩ := q1
  cases r1
  refine wpAny_truthy_bool ?_
  cases c with
  | false => exact hb pins s1 σ H1 Q I1 q1
  | true => exact ⟨.bl true, H1, I1, rfl, q1⟩
theorem pe_not (ha : PE X a ta) : PE X (.UnaryOp .Not a pos) (tNotV ta) := by
  intro pins s σ H Q I h
  refine UnaryOp_ (thn (ha pins s σ H _ I h) fun v s1 ⟨x, H1, I1, r1, q1⟩ => ?_)
  obtain ⟨c, rfl, q1⟩ := q1
  cases r1
  exact not_of (wpAny_truthy_bool ⟨.bl (!c), H1, I1, rfl, q1⟩)
def tIf (t : TT) (ta tb : TE) : TE := fun σ H Q => t σ H fun c H1 => if c = true then ta σ H1 Q else tb σ H1 Q
end
end L2

namespace L2
open PySem PySem.Spec PyProof.Rows

def SqL (K : PySem.W.Frag) (H : Hp) (a : Addr) (xs : List V) : Prop :=
  Rd H a (.lst xs) ∨
    ∃ (o : Obj) (its : Array Value) (n : Nat), K.lookup a = some o ∧ o.cls = .type "list" ∧ o.dict = none ∧ o.data = .seq its n ∧ its.size ≤ sizeLine ∧ Vals xs its.toList
def SqT (K : PySem.W.Frag) (H : Hp) (a : Addr) (xs : List V) : Prop :=
  Rd H a (.tup xs) ∨
    ∃ (o : Obj) (its : Array Value) (n : Nat), K.lookup a = some o ∧ o.cls = .type "tuple" ∧ o.data = .seq its n ∧ its.size ≤ sizeLine ∧ Vals xs its.toList
def absV : Value → Option V
  | .none => some .non
  | .bool b => some (.bl b)
  | .int i _ => some (.int i)
  | .str x _ => some (.str x)
  | .bytes b _ => some (.byt b)
  | .float b _ => some (.flt b)
  | .ref a => some (.ref a)
  | .type n => some (.ty n)
  | _ => none
theorem RelV.abs {x : V} {u : Value} (r : RelV x u) : absV u = some x := by
  cases x with
  | non => cases r; rfl
  | bl _ => cases r; rfl
  | int _ => obtain ⟨t, rfl⟩ := r; rfl
  | str _ => obtain ⟨t, rfl⟩ := r; rfl
  | byt _ => obtain ⟨t, rfl⟩ := r; rfl
  | flt _ => obtain ⟨t, rfl⟩ := r; rfl
  | ref _ => cases r; rfl
  | ty _ => cases r; rfl
theorem RelV.inj {x y : V} {u : Value} (r : RelV x u) (q : RelV y u) : x = y := Option.some.inj (r.abs.symm.trans q.abs)
theorem Vals.inj : ∀ {xs ys : List V} {us : List Value}, Vals xs us → Vals ys us → xs = ys
  | _, _, _, .nil, .nil => rfl
  | _, _, _, .cons r t, .cons r' t' => by rw [r.inj r', Vals.inj t t']
section
variable {X : Cx} {pins : List (Addr × Obj)} {σ : St} {H : Hp} {s : Shared} {a : Addr} {xs ys : List V}
theorem SqL.of {K : PySem.W.Frag} (h : H a = some (.lst xs)) : SqL K H a xs := .inl (.inl h)
theorem SqT.of {K : PySem.W.Frag} (h : H a = some (.tup xs)) : SqT K H a xs := .inl (.inl h)
theorem Inv.list (I : Inv X pins σ H s) (h : SqL X.K H a xs) : ∃ its : List Value, Vals xs its ∧ PlainL s.heap a its.toArray ∧ xs.length ≤ sizeLine := by
  rcases h with h | ⟨o, its, n, hk, hc, hd, hs, hz, r⟩
  · obtain ⟨z, its, n, r, e⟩ := h.ok I.hok
    exact ⟨its, r, ⟨_, n, e, rfl, rfl, rfl⟩, z⟩
  · refine ⟨its.toList, r, ⟨o, n, I.kIn a o hk, hc, hd, by simpa using hs⟩, ?_⟩
    have e := r.length
    simp only [Array.length_toList] at e
    omega
theorem Inv.tuple (I : Inv X pins σ H s) (h : SqT X.K H a xs) : ∃ its : List Value, Vals xs its ∧ IsTup s.heap a its.toArray ∧ xs.length ≤ sizeLine := by
  rcases h with h | ⟨o, its, n, hk, hc, hs, hz, r⟩
  · obtain ⟨z, its, r, p⟩ := h.ok I.hok
    exact ⟨its, r, p, z⟩
  · refine ⟨its.toList, r, ⟨o, I.kIn a o hk, hc, n, by simpa using hs⟩, ?_⟩
    have e := r.length
    simp only [Array.length_toList] at e
    omega
theorem Inv.list_inj (I : Inv X pins σ H s) (h : SqL X.K H a xs) (h' : SqL X.K H a ys) : xs = ys := by
  obtain ⟨its, r, ⟨o, n, e, _, _, d⟩, _⟩ := I.list h
  obtain ⟨its', r', ⟨o', n', e', _, _, d'⟩, _⟩ := I.list h'
  rw [e] at e'; cases e'
  rw [d] at d'
  injection d' with d1 _
  have : its = its' := by simpa using congrArg Array.toList d1
  subst this
  exact r.inj r'
end

abbrev Cx.wish (X : Cx) (E : Value → Shared → Prop) : Cx := { X with xe := E }
abbrev Cx.nox (X : Cx) : Cx := X.wish fun _ _ => False
theorem Cx.Ok.wish {X : Cx} (ok : X.Ok) (E : Value → Shared → Prop) : (X.wish E).Ok :=
  ⟨ok.mod, ok.kind, ok.glob, ok.blt, ok.above, ok.inj, ok.has, ok.cab, ok.hd, ok.frames, ok.stk, ok.exf, ok.bs, ok.bsz, ok.noex, ok.exfs, ok.funs, ok.frf⟩
theorem Cx.Ok.unwish {X : Cx} {E : Value → Shared → Prop} (ok : (X.wish E).Ok) : X.Ok :=
  ⟨ok.mod, ok.kind, ok.glob, ok.blt, ok.above, ok.inj, ok.has, ok.cab, ok.hd, ok.frames, ok.stk, ok.exf, ok.bs, ok.bsz, ok.noex, ok.exfs, ok.funs, ok.frf⟩
section
variable {X : Cx} {pins : List (Addr × Obj)} {σ : St} {H : Hp} {s : Shared} {E : Value → Shared → Prop}
theorem Inv.wish (I : Inv X pins σ H s) (E : Value → Shared → Prop) : Inv (X.wish E) pins σ H s := ⟨I.ok.wish E, I.os, I.bare, I.base, I.loc, I.cell, I.free, I.freeC, I.pin, I.hok, I.len⟩
theorem Inv.unwish (I : Inv (X.wish E) pins σ H s) : Inv X pins σ H s := ⟨I.ok.unwish, I.os, I.bare, I.base, I.loc, I.cell, I.free, I.freeC, I.pin, I.hok, I.len⟩
theorem SP.unwish {D : Ends} {f : Flow} {s' : Shared} (h : SP (X.wish E) pins D f s') : SP X pins D f s' := by
  cases f with
  | next => obtain ⟨σ', H', I, q⟩ := h; exact ⟨σ', H', I.unwish, q⟩
  | brk => obtain ⟨σ', H', I, q⟩ := h; exact ⟨σ', H', I.unwish, q⟩
  | cont => obtain ⟨σ', H', I, q⟩ := h; exact ⟨σ', H', I.unwish, q⟩
  | ret u => obtain ⟨v, σ', H', I, r, q⟩ := h; exact ⟨v, σ', H', I.unwish, r, q⟩
theorem PE.nox {e : Expr} {t : TE} (h : PE X.nox e t) : PE X e t := fun pins s σ H Q I hw =>
  wpAny_mono (h pins s σ H Q (I.wish _) hw) (fun _ _ ⟨v, H', I', r, q⟩ => ⟨v, H', I'.unwish, r, q⟩) fun _ _ z => False.elim z
theorem PT.nox {e : Expr} {t : TT} (h : PT X.nox e t) : PT X e t := fun pins s σ H Q I hw =>
  wpAny_mono (h pins s σ H Q (I.wish _) hw) (fun _ _ ⟨H', I', q⟩ => ⟨H', I'.unwish, q⟩) fun _ _ z => False.elim z
theorem PSs.nox {st : List Stmt} {t : TS} (h : PSs X.nox st t) : PSs X st t := fun pins s σ H D I hw =>
  wpAny_mono (h pins s σ H D (I.wish _) hw) (fun _ _ q => q.unwish) fun _ _ z => False.elim z
end

section
variable {X : Cx} {st : Stmt} {rest : List Stmt} {t u : TS} {e : Expr} {te : TE} {pos : Pos}
def tNext : TS := fun D σ H => D.nx σ H
def tSeq (t u : TS) : TS := fun D σ H => t { D with nx := u D } σ H
theorem pss_nil : PSs X [] tNext := fun _ _ σ H _ I h => wpAny_execs_nil ⟨σ, H, I, h⟩
theorem pss_cons (h1 : PS X st t) (h2 : PSs X rest u) : PSs X (st :: rest) (tSeq t u) := by
  intro pins s σ H D I h
  refine wpAny_execs_cons (thn (h1 pins s σ H { D with nx := u D } I h) fun f s1 q => ?_)
  cases f with
  | next =>
    obtain ⟨σ', H', I', q⟩ := q
    exact h2 pins s1 σ' H' D I' q
  | ret v => exact q
  | brk => exact q
  | cont => exact q
theorem pss_one (h1 : PS X st t) : PSs X [st] t := by
  intro pins s σ H D I h
  refine wpAny_execs_cons (thn (h1 pins s σ H D I h) fun f s1 q => ?_)
  cases f with
  | next => exact wpAny_execs_nil q
  | ret v => exact q
  | brk => exact q
  | cont => exact q
def tBreak : TS := fun D σ H => D.bk σ H
def tCont : TS := fun D σ H => D.ct σ H
theorem Inv.quiet {pins : List (Addr × Obj)} {σ : St} {H : Hp} {s : Shared} (I : Inv X pins σ H s) : interactive X.env = false := by simp [interactive, I.ok.kind]
def tDrop (te : TE) : TS := fun D σ H => te σ H fun _ H1 => D.nx σ H1
theorem ps_expr (he : PE X e te) (hs : swapsWith e none pos.line X.env = pure false := by rfl) : PS X (.Expr e pos) (tDrop te) := by
  intro pins s σ H D I h
  exact wpAny_Expr_any (thn (he pins s σ H _ I h) fun v s1 ⟨x, H1, I1, r1, q1⟩ => ⟨σ, H1, I1, q1⟩) I.quiet hs
def tRet (te : TE) : TS := fun D σ H => te σ H D.rt
theorem ps_ret (he : PE X e te) : PS X (.Return (some e) pos) (tRet te) := by
  intro pins s σ H D I h
  exact wpAny_Return_some (thn (he pins s σ H _ I h) fun v s1 ⟨x, H1, I1, r1, q1⟩ => ⟨x, σ, H1, I1, r1, q1⟩)
def tRetN : TS := fun D _ H => D.rt .non H
def tIfS (c : TT) (t u : TS) : TS := fun D σ H => c σ H fun b H1 => if b = true then t D σ H1 else u D σ H1
theorem ps_if {c : Expr} {a b : List Stmt} {tc : TT} (hc : PT X c tc) (ha : PSs X a t) (hb : PSs X b u) : PS X (.If c a b pos) (tIfS tc t u) := by
  intro pins s σ H D I h
  refine wpAny_If (thn (hc pins s σ H _ I h) fun d s1 ⟨H1, I1, q1⟩ => ?_)
  cases d with
  | true => exact ha pins s1 σ H1 D I1 q1
  | false => exact hb pins s1 σ H1 D I1 q1
end

abbrev TG := V → St → Hp → (St → Hp → Prop) → Prop
abbrev TGs := List V → St → Hp → (St → Hp → Prop) → Prop
def PG (X : Cx) (target : Expr) (t : TG) : Prop :=
  ∀ (pins : List (Addr × Obj)) (s : Shared) (σ : St) (H : Hp) (v : V) (u : Value) (Q : St → Hp → Prop), Inv X pins σ H s → RelV v u → t v σ H Q →
    wpAny (model X.prog X.w) X.A (assign target X.env u) (fun _ s' => ∃ σ' H', Inv X pins σ' H' s' ∧ Q σ' H') X.xe s
abbrev TSet := V → V → V → Hp → (Hp → Prop) → Prop
abbrev TIp := V → V → Hp → VK → Prop
section
variable {X : Cx} {pos : Pos}
def gName (i : Nat) : TG := fun v σ H Q => Q (σ.set i (some v)) H
theorem pg_name {i : Nat} {x : Str} (hN : X.N.Nodup) (hi : X.N[i]? = some x) (hx : Loc X.env.scope x) (hf : X.fn x = true ∨ X.env.scope.names.lookup x = some .local := by first | exact .inl rfl | exact .inr rfl | assumption) : PG X (.Name x pos) (gName i) := by
  intro pins s σ H v u Q I r h
  exact wpAny_assign_Name (store_ok I hN hi hx r (fun s' I' => ⟨_, H, I', h⟩) hf)
def gNil : TGs := fun vs σ H Q => vs = [] ∧ Q σ H
def gCons (t : TG) (u : TGs) : TGs := fun vs σ H Q => ∃ v r, vs = v :: r ∧ t v σ H fun σ' H' => u r σ' H' Q
def gSub (to ti : TE) (t : TSet) : TG := fun v σ H Q => to σ H fun o H1 => ti σ H1 fun i H2 => t o i v H2 fun H3 => Q σ H3
def tAsg (te : TE) (g : TG) : TS := fun D σ H => te σ H fun x H1 => g x σ H1 D.nx
theorem ps_set {i : Nat} {x : Str} {e : Expr} {te : TE} {pos' : Pos} (hN : X.N.Nodup) (hi : X.N[i]? = some x) (hx : Loc X.env.scope x) (he : PE X e te) (hs : swapsWith e (some (.Name x pos')) pos.line X.env = pure false := by rfl) (hf : X.fn x = true ∨ X.env.scope.names.lookup x = some .local := by first | exact .inl rfl | exact .inr rfl | assumption) :
    PS X (.Assign [.Name x pos'] e pos) (tAsg te (gName i)) := by
  intro pins s σ H D I h
  refine wpAny_Assign_Name (thn (he pins s σ H _ I h) fun v s1 ⟨y, H1, I1, r1, q1⟩ => ?_) hs
  exact store_ok I1 hN hi hx r1 (fun s2 I2 => ⟨_, H1, I2, q1⟩) hf
def tPar (i j : Nat) (ta : TA) : TS := fun D σ H => ta σ H fun vs H1 => ∃ v w, vs = [v, w] ∧ D.nx ((σ.set i (some v)).set j (some w)) H1
def tAug (i : Nat) (te : TE) (ti : TIp) : TS := fun D σ H => ∃ x, σ[i]? = some (some x) ∧ te σ H fun y H1 => ti x y H1 fun z H2 => D.nx (σ.set i (some z)) H2
def ipI (f : Int → Int → Int) : TIp := fun x y H Q => ∃ i j, x = .int i ∧ y = .int j ∧ Q (.int (f i j)) H
end

section
variable {X : Cx} {pos : Pos}
def tWhile (c : TT) (tb : TS) : TS := fun D σ H => ∃ W : Nat → St → Hp → Prop, (∃ m, W m σ H) ∧ ∀ m σ H, W m σ H →
  c σ H fun b H1 => if b = true then ∃ N : St → Hp → Prop, (∀ σ' H', N σ' H' → ∃ m', m' < m ∧ W m' σ' H') ∧ tb { D with nx := N, ct := N, bk := D.nx } σ H1 else D.nx σ H1
theorem ps_while {c : Expr} {body : List Stmt} {tc : TT} {tb : TS} (hp : PassesOwn (model X.prog X.w) X.A X.env X.xe) (hc : PT X c tc) (hb : PSs X body tb) : PS X (.While c body [] pos) (tWhile tc tb) := by
  intro pins s σ H D I h
  obtain ⟨W, ⟨m0, w0⟩, turn⟩ := h
  refine wpAny_While (codeAny_whileLoop (fun n s' => ∃ σ' H', Inv X pins σ' H' s' ∧ W n σ' H') ?_ m0 ⟨σ, H, I, w0⟩)
  rintro n s1 ⟨σ1, H1, I1, w1⟩
  refine wpAny_passesOwn hp (thn (hc pins s1 σ1 H1 _ I1 (turn n σ1 H1 w1)) fun b s2 ⟨H2, I2, q2⟩ => ?_)
  cases b with
  | true =>
    obtain ⟨N, hN, q2⟩ := q2
    rw [if_pos rfl]
    refine wpAny_passesOwn hp (thn (hb pins s2 σ1 H2 _ I2 q2) fun f s3 q3 => ?_)
    cases f with
    | next =>
      obtain ⟨σ3, H3, I3, n3⟩ := q3
      obtain ⟨m', hm, w3⟩ := hN σ3 H3 n3
      exact ⟨m', hm, σ3, H3, I3, w3⟩
    | cont =>
      obtain ⟨σ3, H3, I3, n3⟩ := q3
      obtain ⟨m', hm, w3⟩ := hN σ3 H3 n3
      exact ⟨m', hm, σ3, H3, I3, w3⟩
    | brk => exact q3
    | ret v => exact q3
  | false =>
    rw [if_neg Bool.false_ne_true]
    exact wpAny_execs_nil ⟨σ1, H2, I2, q2⟩
end

structure It where
  go : Nat → Hp → Prop
  yld : Nat → Hp → V → Hp → Prop
  stop : Nat → Hp → Prop
def FpOk (X : Cx) (pins : List (Addr × Obj)) (H : Hp) (b : Addr) : Prop :=
  H b = none ∧ b ≠ X.env.locals ∧ b ∉ X.fs ∧ (b ∈ X.ex ∨ X.s₀.heap.objs.size ≤ b) ∧ (∀ x c, X.env.cells.lookup x = some c → c ≠ b) ∧ ∀ p ∈ X.pn ++ pins, p.1 ≠ b
theorem Inv.fpOk {X : Cx} {pins : List (Addr × Obj)} {σ : St} {H H' : Hp} {s : Shared} {b : Addr} (I : Inv X pins σ H s) (hb : s.heap.objs.size ≤ b) (hn : H' b = none) : FpOk X pins H' b := by
  refine ⟨hn, Nat.ne_of_gt (Nat.lt_of_lt_of_le I.lt hb), I.nofs hb, .inr (Nat.le_trans I.sz hb), fun x c e z => ?_, fun p hp z => ?_⟩
  · obtain ⟨v, q⟩ := I.cell x c e
    exact absurd (Nat.lt_of_lt_of_le q.lt (by rw [z]; exact hb)) (Nat.lt_irrefl _)
  · exact absurd (Nat.lt_of_lt_of_le (Heap.lt_size (I.pin p hp).1) (by rw [z]; exact hb)) (Nat.lt_irrefl _)
structure Turn (P : Program) (w : World) (K : PySem.W.Frag) (tg : Expr) (J : It) (fp : List Addr) (it : Addr) (tn : Nat → Heap → Prop) : Prop where
  mem : it ∈ fp
  obj : ∀ i h, tn i h → ∀ b ∈ fp, ∃ o, h.get? b = some o ∧ ∀ v, o.data ≠ .cell v
  keep : ∀ i h h', tn i h → (∀ b ∈ fp, ∀ o, h.get? b = some o → h'.get? b = some o) → tn i h'
  item : ∀ (X : Cx), X.prog = P → X.w = w → X.K = K → X.calm = true → ∀ (i : Nat) (pins : List (Addr × Obj)) (s : Shared) (σ : St) (H : Hp) (E : Value → Shared → Prop), Inv X pins σ H s → (∀ b ∈ fp, FpOk X pins H b) → tn i s.heap → J.go i H →
    wpAny (model P w) X.A (pyNext (.ref it)) (fun r s1 => ∃ u, r = some u ∧
      wpAny (model P w) X.A (letOwnedTupleGo tg (.ref it) u) (fun _ s2 => ∃ x H', Inv X pins σ H' s2 ∧ RelV x u ∧ J.yld i H x H' ∧ tn (i + 1) s2.heap ∧ ∀ b ∈ fp, H' b = none) E s1) E s
  done : ∀ (X : Cx), X.prog = P → X.w = w → X.K = K → X.calm = true → ∀ (i : Nat) (pins : List (Addr × Obj)) (s : Shared) (σ : St) (H : Hp) (E : Value → Shared → Prop), Inv X pins σ H s → (∀ b ∈ fp, FpOk X pins H b) → tn i s.heap → J.stop i H →
    wpAny (model P w) X.A (pyNext (.ref it)) (fun r s1 => r = none ∧ Inv X pins σ H s1) E s
  self : ∀ (A : Around) (i : Nat) (s : Shared) (Q : Value → Shared → Prop) (E : Value → Shared → Prop), tn i s.heap → Q (.ref it) s → wpAny (model P w) A (pyIter (.ref it)) Q E s
abbrev TI := St → Hp → (It → Hp → Prop) → Prop
def PIE (X : Cx) (pins : List (Addr × Obj)) (σ : St) (tg : Expr) (R : It → Hp → Prop) (itv : Value) (s2 : Shared) : Prop :=
  ∃ (it : Addr) (fp : List Addr) (tn : Nat → Heap → Prop) (J : It) (H' : Hp), itv = .ref it ∧ Inv X pins σ H' s2 ∧ Turn X.prog X.w X.K tg J fp it tn ∧ tn 0 s2.heap ∧ (∀ b ∈ fp, FpOk X pins H' b) ∧ R J H'
def PI (X : Cx) (tg iter : Expr) (wi : TI) : Prop :=
  ∀ (pins : List (Addr × Obj)) (s : Shared) (σ : St) (H : Hp) (R : It → Hp → Prop), Inv X pins σ H s → wi σ H R →
    wpAny (model X.prog X.w) X.A (eval iter X.env) (fun v s1 => wpAny (model X.prog X.w) X.A (pyIter v) (PIE X pins σ tg R) X.xe s1) X.xe s

theorem go_of {M : Model} {A : Around} {E : Value → Shared → Prop} {s : Shared} {tg : Expr} {it : Addr} {u : Value} {o : Obj} {n : String} {vs : Array Value} {Q : Unit → Shared → Prop} (ho : s.heap.get? it = some o) (hc : o.cls = .type n) (hd : o.data = .fields vs)
    (hn : ["enumerate", "zip", "dict_itemiterator", "dict_reverseitemiterator", "odict_iterator", "itertools.zip_longest", "itertools.pairwise"].contains n = false) (hQ : Q () s) : wpAny M A (letOwnedTupleGo tg (.ref it) u) Q E s := by
  unfold letOwnedTupleGo
  cases tg <;> first
    | exact wpAny_pure hQ
    | (cases u <;> first
        | exact wpAny_pure hQ
        | (refine wpAny_bind (wpAny_load ho ?_)
           rw [hc, hd]
           show wpAny M A (if (["enumerate", "zip", "dict_itemiterator", "dict_reverseitemiterator", "odict_iterator", "itertools.zip_longest", "itertools.pairwise"].contains n && vs[0]? == some (rawInt _)) = true then _ else _) Q E s
           rw [if_neg (by intro h; rw [hn, Bool.false_and] at h; cases h)]
           exact wpAny_pure hQ))

def Itl (K : PySem.W.Frag) (a : Addr) : It :=
  ⟨fun i H => ∃ xs x, SqL K H a xs ∧ xs[i]? = some x, fun i H x H' => H' = H ∧ ∀ xs, SqL K H a xs → xs[i]? = some x, fun i H => ∃ xs, SqL K H a xs ∧ xs.length ≤ i⟩
def Itt (K : PySem.W.Frag) (a : Addr) : It :=
  ⟨fun i H => ∃ xs x, SqT K H a xs ∧ xs[i]? = some x, fun i H x H' => H' = H ∧ ∀ xs, SqT K H a xs → xs[i]? = some x, fun i H => ∃ xs, SqT K H a xs ∧ xs.length ≤ i⟩
def Itr (lo : Int) (n : Nat) : It := ⟨fun i _ => i < n, fun i H x H' => H' = H ∧ x = .int (lo + i), fun i _ => n ≤ i⟩
theorem turn_list {P : Program} {w : World} {K : PySem.W.Frag} {tg : Expr} (a it : Addr) : Turn P w K tg (Itl K a) [it] it (fun i h => h.IsListIter it a i) where
  mem := by simp
  obj := fun i h st b hb => by
    have e : b = it := by simpa using hb
    subst e
    obtain ⟨o, e, c, d⟩ := st
    exact ⟨o, e, fun v z => by rw [d] at z; cases z⟩
  keep := fun i h h' st k => st.at fun o e => k it (by simp) o e
  item := by
    intro X hP hw hK hc i pins s σ H E I hf st hg
    subst hP hw hK
    obtain ⟨xs, x, hq, hx⟩ := hg
    obtain ⟨its, rv, p, hz⟩ := I.list hq
    obtain ⟨u, hu, ru⟩ := rv.get hx
    obtain ⟨f0, f1, f2, f3, f4, f5⟩ := hf it (by simp)
    refine wpAny_pyNext_list_item st p.isList (x := u) (by simpa using hu) fun h' st' sb => ?_
    have I1 : Inv X pins σ H { s with heap := h' } := I.turned (t' := s.toks) (fun b o hb e => (sb.2 b hb).trans e) f0 f1 f3 f4 f5
    obtain ⟨o, e, c, d⟩ := id st'
    exact ⟨u, rfl, go_of (s := { s with heap := h' }) e c d (by decide) ⟨x, H, I1, ru, ⟨rfl, fun ys hy => by rw [I.list_inj hy hq]; exact hx⟩, st', fun b hb => (hf b hb).1⟩⟩
  done := by
    intro X hP hw hK hc i pins s σ H E I hf st hg
    subst hP hw hK
    obtain ⟨xs, hq, hx⟩ := hg
    obtain ⟨its, rv, p, hz⟩ := I.list hq
    obtain ⟨f0, f1, f2, f3, f4, f5⟩ := hf it (by simp)
    have hl := rv.length
    exact wpAny_pyNext_list_end (I.ok.hd hc) st p.isList (by simp; omega) fun h' eb => ⟨rfl, I.turned (t' := s.toks) (fun b o hb e => eb b o hb e) f0 f1 f3 f4 f5⟩
  self := fun _ _ _ _ _ st h => wpAny_pyIter_listiter st h
end L2

namespace L2
open PySem PySem.Spec PyProof.Rows
section
variable {X : Cx} {tg : Expr}
def iList (K : PySem.W.Frag) (tl : TE) : TI := fun σ H R => tl σ H fun x H1 => ∃ a, x = .ref a ∧ (∃ xs, SqL K H1 a xs) ∧ R (Itl K a) H1
def iTup (K : PySem.W.Frag) (tl : TE) : TI := fun σ H R => tl σ H fun x H1 => ∃ a, x = .ref a ∧ (∃ xs, SqT K H1 a xs) ∧ R (Itt K a) H1
theorem pi_list {l : Expr} {tl : TE} (hl : PE X l tl) : PI X tg l (iList X.K tl) := by
  intro pins s σ H R I h
  refine thn (hl pins s σ H _ I h) fun v s1 ⟨x, H1, I1, r1, q1⟩ => ?_
  obtain ⟨a, e, ⟨xs, hq⟩, q⟩ := q1
  subst e
  cases r1
  obtain ⟨its, rv, p, hz⟩ := I1.list hq
  refine wpAny_pyIter_list p.isList ?_
  refine ⟨s1.heap.objs.size, [s1.heap.objs.size], _, _, H1, rfl, I1.kept (t' := s1.toks) fun b o e => Heap.get?_push_of_some _ e, turn_list a _, ⟨_, Heap.get?_push_size _ rfl, rfl, rfl⟩, fun b hb => ?_, q⟩
  have e : b = s1.heap.objs.size := by simpa using hb
  subst e
  exact I1.fpOk (Nat.le_refl _) (I1.hok.fresh (Nat.le_refl _))
def iRng1 (ta : TA) : TI := fun σ H R => ta σ H fun vs H1 => ∃ j : Int, vs = [.int j] ∧ -(2 ^ 62) ≤ j ∧ j < 2 ^ 62 ∧ R (Itr 0 j.toNat) H1
def iRng2 (ta : TA) : TI := fun σ H R => ta σ H fun vs H1 => ∃ i j : Int, vs = [.int i, .int j] ∧ (-(2 ^ 62) ≤ i ∧ i < 2 ^ 62 ∧ -(2 ^ 62) ≤ j ∧ j < 2 ^ 62) ∧ R (Itr i (j - i).toNat) H1
def tFor (wi : TI) (g : TG) (tb : TS) : TS := fun D σ H => wi σ H fun J H1 => ∃ W : Nat → Nat → St → Hp → Prop, (∃ m, W 0 m σ H1) ∧ ∀ i m σ H, W i m σ H →
  (J.stop i H ∧ D.nx σ H) ∨ (J.go i H ∧ ∃ N : St → Hp → Prop, (∀ σ' H', N σ' H' → ∃ m', m' < m ∧ W (i + 1) m' σ' H') ∧ ∀ x H', J.yld i H x H' → g x σ H' fun σ2 H2 => tb { D with nx := N, ct := N, bk := D.nx } σ2 H2)
def pinsAt (fp : List Addr) (h : Heap) : List (Addr × Obj) := fp.filterMap fun b => (h.get? b).map fun o => (b, o)
theorem mem_pinsAt {fp : List Addr} {h : Heap} {b : Addr} {o : Obj} (hb : b ∈ fp) (e : h.get? b = some o) : (b, o) ∈ pinsAt fp h := List.mem_filterMap.mpr ⟨b, hb, by rw [e]; rfl⟩
theorem of_pinsAt {fp : List Addr} {h : Heap} {p : Addr × Obj} (hp : p ∈ pinsAt fp h) : p.1 ∈ fp ∧ h.get? p.1 = some p.2 := by
  obtain ⟨b, hb, e⟩ := List.mem_filterMap.mp hp
  cases q : h.get? b with
  | none => rw [q] at e; cases e
  | some o =>
    rw [q] at e
    have e' : (b, o) = p := Option.some.inj e
    subst e'
    exact ⟨hb, q⟩
theorem Inv.pinned {pins : List (Addr × Obj)} {σ : St} {H : Hp} {s : Shared} {fp : List Addr} (I : Inv X pins σ H s) (hf : ∀ b ∈ fp, FpOk X pins H b) (ho : ∀ b ∈ fp, ∃ o, s.heap.get? b = some o ∧ ∀ v, o.data ≠ .cell v) : Inv X (pins ++ pinsAt fp s.heap) σ H s :=
  I.pins_of fun p hp => (List.mem_append.mp hp).elim (fun z => I.pin p (List.mem_append_right _ z)) fun z => by
    obtain ⟨hb, e⟩ := of_pinsAt z
    obtain ⟨f0, f1, f2, _⟩ := hf p.1 hb
    obtain ⟨o, e', d⟩ := ho p.1 hb
    rw [e] at e'; cases e'
    exact ⟨e, f0, f1, f2, d⟩
theorem Inv.unpinned {pins pl : List (Addr × Obj)} {σ : St} {H : Hp} {s : Shared} (I : Inv X (pins ++ pl) σ H s) : Inv X pins σ H s := I.pins_of fun p hp => I.pin p (List.mem_append_right _ (List.mem_append_left _ hp))
theorem ps_for {iter : Expr} {body : List Stmt} {wi : TI} {g : TG} {tb : TS} {pos : Pos} (hp : PassesOwn (model X.prog X.w) X.A X.env X.xe) (hc : X.calm = true) (hi : PI X tg iter wi) (hg : PG X tg g) (hb : PSs X body tb)
    (hs : ∀ x, foldedSetIterable iter X.env x = pure x := by intro _; rfl) : PS X (.For tg iter body [] pos) (tFor wi g tb) := by
  intro pins s σ H D I h
  refine wpAny_For (thn (hi pins s σ H _ I h) fun v s1 h1 => thn h1 fun itv s2 h2 => ?_) hs
  obtain ⟨it, fp, tn, J, H2, e, I2, T, st2, f2, W, ⟨m0, w0⟩, turn⟩ := h2
  subst e
  -- what stays true of the iterator's objects through the loop
  have stat : ∀ {H' : Hp}, (∀ b ∈ fp, H' b = none) → ∀ b ∈ fp, FpOk X pins H' b := fun hn b hb => ⟨hn b hb, (f2 b hb).2⟩
  refine codeAny_forLoop_any (fun n s' => ∃ i σ' H', Inv X pins σ' H' s' ∧ tn i s'.heap ∧ (∀ b ∈ fp, H' b = none) ∧ W i n σ' H') ?_ m0 ⟨0, σ, H2, I2, st2, fun b hb => (f2 b hb).1, w0⟩
  rintro n s3 ⟨i, σ3, H3, I3, st3, fr3, w3⟩
  rcases turn i n σ3 H3 w3 with ⟨stop, qn⟩ | ⟨go, N, hN, step⟩
  · refine wpAny_passesOwn hp (thn (T.done X rfl rfl rfl hc i pins s3 σ3 H3 X.xe I3 (stat fr3) st3 stop) fun r s4 ⟨hr, I4⟩ => ?_)
    subst hr
    exact wpAny_execs_nil ⟨σ3, H3, I4, qn⟩
  · refine wpAny_passesOwn hp (thn (T.item X rfl rfl rfl hc i pins s3 σ3 H3 X.xe I3 (stat fr3) st3 go) fun r s4 ⟨u, hr, h4⟩ => ?_)
    subst hr
    refine wpAny_passesOwn hp (thn h4 fun _ s5 ⟨x, H5, I5, r5, y5, st5, fr5⟩ => ?_)
    have I5' := I5.pinned (stat fr5) (T.obj _ _ st5)
    refine wpAny_passesOwn hp (thn (hg _ s5 σ3 H5 x u _ I5' r5 (step x H5 y5)) fun _ s6 ⟨σ6, H6, I6, q6⟩ => ?_)
    refine wpAny_passesOwn hp (thn (hb _ s6 σ6 H6 _ I6 q6) fun f s7 q7 => ?_)
    have again : ∀ {σ7 : St} {H7 : Hp}, Inv X (pins ++ pinsAt fp s5.heap) σ7 H7 s7 → N σ7 H7 → ∃ m, m < n ∧ ∃ i σ' H', Inv X pins σ' H' s7 ∧ tn i s7.heap ∧ (∀ b ∈ fp, H' b = none) ∧ W i m σ' H' := fun {σ7 H7} I7 n7 => by
      obtain ⟨m', hm, w7⟩ := hN σ7 H7 n7
      refine ⟨m', hm, i + 1, σ7, H7, I7.unpinned, T.keep _ _ _ st5 fun b hb o e => (I7.pin (b, o) (List.mem_append_right _ (List.mem_append_right _ (mem_pinsAt hb e)))).1, fun b hb => ?_, w7⟩
      obtain ⟨o, e, d⟩ := T.obj _ _ st5 b hb
      exact (I7.pin (b, o) (List.mem_append_right _ (List.mem_append_right _ (mem_pinsAt hb e)))).2.1
    cases f with
    | next => obtain ⟨σ7, H7, I7, n7⟩ := q7; exact again I7 n7
    | cont => obtain ⟨σ7, H7, I7, n7⟩ := q7; exact again I7 n7
    | brk => obtain ⟨σ7, H7, I7, q7⟩ := q7; exact ⟨σ7, H7, I7.unpinned, q7⟩
    | ret v => obtain ⟨x7, σ7, H7, I7, r7, q7⟩ := q7; exact ⟨x7, σ7, H7, I7.unpinned, r7, q7⟩
end

theorem for_list {K : PySem.W.Frag} {a : Addr} {xs : List V} {g : TG} {tb : TS} {D : Ends} {σ : St} {H : Hp} (Pv : Nat → St → Hp → Prop) (h0 : Pv 0 σ H) (hl : ∀ i σ H, i ≤ xs.length → Pv i σ H → SqL K H a xs)
    (hs : ∀ i x σ H, xs[i]? = some x → Pv i σ H → g x σ H fun σ2 H2 => tb { D with nx := Pv (i + 1), ct := Pv (i + 1), bk := D.nx } σ2 H2) (hd : ∀ σ H, Pv xs.length σ H → D.nx σ H) :
    ∃ W : Nat → Nat → St → Hp → Prop, (∃ m, W 0 m σ H) ∧ ∀ i m σ H, W i m σ H →
      ((Itl K a).stop i H ∧ D.nx σ H) ∨ ((Itl K a).go i H ∧ ∃ N : St → Hp → Prop, (∀ σ' H', N σ' H' → ∃ m', m' < m ∧ W (i + 1) m' σ' H') ∧ ∀ x H', (Itl K a).yld i H x H' → g x σ H' fun σ2 H2 => tb { D with nx := N, ct := N, bk := D.nx } σ2 H2) := by
  refine ⟨fun i m σ H => m = xs.length - i ∧ i ≤ xs.length ∧ Pv i σ H, ⟨xs.length, by simp, Nat.zero_le _, h0⟩, ?_⟩
  rintro i m σ H ⟨rfl, hi, p⟩
  have q := hl i σ H hi p
  by_cases hlt : i < xs.length
  · refine .inr ⟨⟨xs, xs[i], q, by simp [hlt]⟩, Pv (i + 1), fun σ' H' p' => ⟨xs.length - (i + 1), by omega, rfl, hlt, p'⟩, fun x H' y => ?_⟩
    obtain ⟨e, y⟩ := y
    subst e
    exact hs i x σ _ (y xs q) p
  · have e : i = xs.length := by omega
    subst e
    exact .inl ⟨⟨xs, q, Nat.le_refl _⟩, hd σ H p⟩
end L2

namespace L2
open PySem PySem.Spec PyProof.Rows

abbrev R2 := V → V → Hp → VK → Prop
def OpR (X : Cx) (f : Value → Value → Sem Value) (r : R2) : Prop :=
  ∀ (pins : List (Addr × Obj)) (s : Shared) (σ : St) (H : Hp) (x y : V) (v u : Value) (Q : VK), Inv X pins σ H s → RelV x v → RelV y u → r x y H Q →
    wpAny (model X.prog X.w) X.A (f v u) (EP X pins σ Q) X.xe s
def UnR (X : Cx) (f : Value → Sem Value) (r : V → Hp → VK → Prop) : Prop :=
  ∀ (pins : List (Addr × Obj)) (s : Shared) (σ : St) (H : Hp) (x : V) (v : Value) (Q : VK), Inv X pins σ H s → RelV x v → r x H Q →
    wpAny (model X.prog X.w) X.A (f v) (EP X pins σ Q) X.xe s
def CallR (X : Cx) (f : Value) (r : List V → Hp → VK → Prop) : Prop :=
  ∀ (pins : List (Addr × Obj)) (s : Shared) (σ : St) (H : Hp) (xs : List V) (us : List Value) (Q : VK), Inv X pins σ H s → Vals xs us → r xs H Q →
    wpAny (model X.prog X.w) X.A (call f us) (EP X pins σ Q) X.xe s
def tOp (r : R2) (ta tb : TE) : TE := fun σ H Q => ta σ H fun x H1 => tb σ H1 fun y H2 => r x y H2 Q
def tUn (r : V → Hp → VK → Prop) (ta : TE) : TE := fun σ H Q => ta σ H fun x H1 => r x H1 Q
def rI (C : Int → Int → Prop) (g : Int → Int → V) : R2 := fun x y H Q => ∃ i j, x = .int i ∧ y = .int j ∧ C i j ∧ Q (g i j) H
def rI0 (g : Int → Int → V) : R2 := fun x y H Q => ∃ i j, x = .int i ∧ y = .int j ∧ Q (g i j) H
def rU (g : Int → V) : V → Hp → VK → Prop := fun x H Q => ∃ i, x = .int i ∧ Q (g i) H

section
variable {X : Cx} {a b c : Expr} {ta tb tc : TE} {pos : Pos}

theorem binT (ha : PE X a ta) (hb : PE X b tb) {pins : List (Addr × Obj)} {s : Shared} {σ : St} {H : Hp} {R : V → V → Hp → Prop} (I : Inv X pins σ H s)
    (h : ta σ H fun x H1 => tb σ H1 fun y H2 => R x y H2) {Q : Value → Shared → Prop} {f : Value → Value → Sem Value}
    (hf : ∀ v u s2 x y H2, Inv X pins σ H2 s2 → RelV x v → RelV y u → R x y H2 → wpAny (model X.prog X.w) X.A (f v u) Q X.xe s2) :
    wpAny (model X.prog X.w) X.A (eval a X.env) (fun v s₁ => wpAny (model X.prog X.w) X.A (eval b X.env) (fun u s₂ => wpAny (model X.prog X.w) X.A (f v u) Q X.xe s₂) X.xe s₁) X.xe s := by
  refine thn (ha pins s σ H _ I h) fun v s1 ⟨x, H1, I1, r1, q1⟩ => ?_
  refine thn (hb pins s1 σ H1 _ I1 q1) fun u s2 ⟨y, H2, I2, r2, q2⟩ => ?_
  exact hf v u s2 x y H2 I2 r1 r2 q2

theorem pe_op {op : Operator} {r : R2} (ho : OpR X (binaryOp op) r) (ha : PE X a ta) (hb : PE X b tb) : PE X (.BinOp a op b pos) (tOp r ta tb) := by
  intro pins s σ H Q I h
  exact wpAny_BinOp (binT ha hb I h fun v u s2 x y H2 I2 rx ry q => ho pins s2 σ H2 x y v u Q I2 rx ry q)
theorem pe_un {op : UnaryOp} {r : V → Hp → VK → Prop} (ho : UnR X (unaryOp op) r) (ha : PE X a ta) : PE X (.UnaryOp op a pos) (tUn r ta) := by
  intro pins s σ H Q I h
  exact UnaryOp_ (thn (ha pins s σ H _ I h) fun v s1 ⟨x, H1, I1, r1, q1⟩ => ho pins s1 σ H1 x v Q I1 r1 q1)
theorem opI {f : Value → Value → Sem Value} {C : Int → Int → Prop} {g : Int → Int → Int}
    (rule : ∀ (i j : Int) (t u : Tok) (s : Shared) (Q : Value → Shared → Prop) (E : Value → Shared → Prop), C i j → Q (.int (g i j) s.toks) { s with toks := s.toks + 1 } → wpAny (model X.prog X.w) X.A (f (.int i t) (.int j u)) Q E s) :
    OpR X f (rI C fun i j => .int (g i j)) := by
  intro pins s σ H x y v u Q I rx ry h
  obtain ⟨i, j, rfl, rfl, hc, q⟩ := h
  obtain ⟨t, rfl⟩ := rx
  obtain ⟨t', rfl⟩ := ry
  exact rule i j t t' s _ _ hc ⟨.int (g i j), H, I.tok _, ⟨_, rfl⟩, q⟩
theorem opI0 {f : Value → Value → Sem Value} {g : Int → Int → Int}
    (rule : ∀ (i j : Int) (t u : Tok) (s : Shared) (Q : Value → Shared → Prop) (E : Value → Shared → Prop), Q (.int (g i j) s.toks) { s with toks := s.toks + 1 } → wpAny (model X.prog X.w) X.A (f (.int i t) (.int j u)) Q E s) :
    OpR X f (rI0 fun i j => .int (g i j)) := by
  intro pins s σ H x y v u Q I rx ry h
  obtain ⟨i, j, rfl, rfl, q⟩ := h
  obtain ⟨t, rfl⟩ := rx
  obtain ⟨t', rfl⟩ := ry
  exact rule i j t t' s _ _ ⟨.int (g i j), H, I.tok _, ⟨_, rfl⟩, q⟩
theorem opB0 {f : Value → Value → Sem Value} {g : Int → Int → Bool}
    (rule : ∀ (i j : Int) (t u : Tok) (s : Shared) (Q : Value → Shared → Prop) (E : Value → Shared → Prop), Q (.bool (g i j)) s → wpAny (model X.prog X.w) X.A (f (.int i t) (.int j u)) Q E s) :
    OpR X f (rI0 fun i j => .bl (g i j)) := by
  intro pins s σ H x y v u Q I rx ry h
  obtain ⟨i, j, rfl, rfl, q⟩ := h
  obtain ⟨t, rfl⟩ := rx
  obtain ⟨t', rfl⟩ := ry
  exact rule i j t t' s _ _ ⟨.bl (g i j), H, I, rfl, q⟩

def CPow (i j : Int) : Prop := 0 ≤ j ∧ j ≤ 1000000 ∧ i.natAbs < 2 ^ 64
theorem op_add : OpR X (binaryOp .Add) (rI0 fun i j => .int (i + j)) := opI0 fun _ _ _ _ _ _ _ q => add_int q
theorem op_sub : OpR X (binaryOp .Sub) (rI0 fun i j => .int (i - j)) := opI0 fun _ _ _ _ _ _ _ q => sub_int q
theorem op_mod : OpR X (binaryOp .Mod) (rI (fun _ j => 0 < j) fun i j => .int (i % j)) := opI fun i j _ _ _ _ _ hc q => by
  have h1 : (0 : Int) < j := hc
  exact mod_int' (by omega) (by rw [Int.fmod_eq_emod_of_nonneg i (by omega)]; exact q)
theorem op_pow : OpR X (binaryOp .Pow) (rI CPow fun i j => .int (i ^ j.toNat)) := opI fun _ _ _ _ _ _ _ hc q => pow_int_small hc.1 hc.2.1 hc.2.2 q
theorem unI {f : Value → Sem Value} {g : Int → Int}
    (rule : ∀ (i : Int) (t : Tok) (s : Shared) (Q : Value → Shared → Prop) (E : Value → Shared → Prop), Q (.int (g i) s.toks) { s with toks := s.toks + 1 } → wpAny (model X.prog X.w) X.A (f (.int i t)) Q E s) :
    UnR X f (rU fun i => .int (g i)) := by
  intro pins s σ H x v Q I rx h
  obtain ⟨i, rfl, q⟩ := h
  obtain ⟨t, rfl⟩ := rx
  exact rule i t s _ _ ⟨.int (g i), H, I.tok _, ⟨_, rfl⟩, q⟩
theorem un_neg : UnR X (unaryOp .USub) (rU fun i => .int (-i)) := unI fun _ _ _ _ _ q => neg_int q
end

def scal : V → V → Bool
  | .non, .non => true | .non, .int _ => true | .int _, .non => true | .non, .bl _ => true | .bl _, .non => true | .non, .str _ => true | .str _, .non => true
  | .int _, .int _ => true | .bl _, .bl _ => true | .str _, .str _ => true | .byt _, .byt _ => true
  | .int _, .str _ => true | .str _, .int _ => true | .bl _, .str _ => true | .str _, .bl _ => true
  | _, _ => false
def rEq : R2 := fun x y H Q => scal x y = true ∧ Q (.bl (decide (x = y))) H
def rNe : R2 := fun x y H Q => scal x y = true ∧ Q (.bl (!decide (x = y))) H

theorem dec_int {i j : Int} : decide (V.int i = V.int j) = (i == j) := by
  rw [Bool.eq_iff_iff]
  simp
theorem dec_bl {i j : Bool} : decide (V.bl i = V.bl j) = (i == j) := by
  rw [Bool.eq_iff_iff]
  simp
theorem dec_str {i j : Str} : decide (V.str i = V.str j) = (i == j) := by
  rw [Bool.eq_iff_iff]
  simp
theorem dec_byt {i j : Array UInt8} : decide (V.byt i = V.byt j) = (i.toList == j.toList) := by
  rw [Bool.eq_iff_iff]
  cases i
  cases j
  simp

section
variable {X : Cx} {a b c : Expr} {ta tb tc : TE} {pos : Pos}
theorem fin_bl {pins : List (Addr × Obj)} {σ : St} {H : Hp} {s : Shared} {Q : VK} {k k' : Bool} (I : Inv X pins σ H s) (q : Q (.bl k) H) (e : k = k') : EP X pins σ Q (.bool k') s := by
  subst e
  exact ⟨.bl k, H, I, rfl, q⟩
theorem op_eq : OpR X (compareOp .Eq) rEq := by
  intro pins s σ H x y v u Q I rx ry h
  obtain ⟨hs, q⟩ := h
  cases x with
  | non =>
    cases rx
    cases y with
    | non => cases ry; exact PySem.EqNone.eq_none_none (fin_bl I q (by simp))
    | bl j => cases ry; exact PySem.EqNone.eq_none_bool (fin_bl I q (by simp))
    | int j => obtain ⟨t', rfl⟩ := ry; exact PySem.EqNone.eq_none_int (fin_bl I q (by simp))
    | str j => obtain ⟨t', rfl⟩ := ry; exact PySem.EqNone.eq_none_str (fin_bl I q (by simp))
    | _ => exact absurd (show false = true from hs) Bool.false_ne_true
  | bl i =>
    cases rx
    cases y with
    | non => cases ry; exact PySem.EqNone.eq_bool_none (fin_bl I q (by simp))
    | bl j => cases ry; exact eq_bool (fin_bl I q dec_bl)
    | str j => obtain ⟨t', rfl⟩ := ry; exact PySem.EqMixed.eq_bool_str (fin_bl I q (by simp))
    | _ => exact absurd (show false = true from hs) Bool.false_ne_true
  | int i =>
    obtain ⟨t, rfl⟩ := rx
    cases y with
    | non => cases ry; exact PySem.EqNone.eq_int_none (fin_bl I q (by simp))
    | int j => obtain ⟨t', rfl⟩ := ry; exact eq_int (fin_bl I q dec_int)
    | str j => obtain ⟨t', rfl⟩ := ry; exact PySem.EqMixed.eq_int_str (fin_bl I q (by simp))
    | _ => exact absurd (show false = true from hs) Bool.false_ne_true
  | str i =>
    obtain ⟨t, rfl⟩ := rx
    cases y with
    | non => cases ry; exact PySem.EqNone.eq_str_none (fin_bl I q (by simp))
    | bl j => cases ry; exact PySem.EqMixed.eq_str_bool (fin_bl I q (by simp))
    | int j => obtain ⟨t', rfl⟩ := ry; exact PySem.EqMixed.eq_str_int (fin_bl I q (by simp))
    | str j => obtain ⟨t', rfl⟩ := ry; exact eq_str (fin_bl I q dec_str)
    | _ => exact absurd (show false = true from hs) Bool.false_ne_true
  | byt i =>
    obtain ⟨t, rfl⟩ := rx
    cases y with
    | byt j => obtain ⟨t', rfl⟩ := ry; exact PySem.W.eq_bytes (fin_bl I q dec_byt)
    | _ => exact absurd (show false = true from hs) Bool.false_ne_true
  | _ => cases y <;> exact absurd (show false = true from hs) Bool.false_ne_true
theorem op_ne : OpR X (compareOp .NotEq) rNe := by
  intro pins s σ H x y v u Q I rx ry h
  obtain ⟨hs, q⟩ := h
  cases x with
  | non =>
    cases rx
    cases y with
    | non => cases ry; exact PySem.EqNone.ne_none_none (fin_bl I q (by simp))
    | bl j => cases ry; exact PySem.EqNone.ne_none_bool (fin_bl I q (by simp))
    | int j => obtain ⟨t', rfl⟩ := ry; exact PySem.EqNone.ne_none_int (fin_bl I q (by simp))
    | str j => obtain ⟨t', rfl⟩ := ry; exact PySem.EqNone.ne_none_str (fin_bl I q (by simp))
    | _ => exact absurd (show false = true from hs) Bool.false_ne_true
  | bl i =>
    cases rx
    cases y with
    | non => cases ry; exact PySem.EqNone.ne_bool_none (fin_bl I q (by simp))
    | bl j => cases ry; exact ne_bool (fin_bl I q (congrArg not dec_bl))
    | str j => obtain ⟨t', rfl⟩ := ry; exact PySem.EqMixed.ne_bool_str (fin_bl I q (by simp))
    | _ => exact absurd (show false = true from hs) Bool.false_ne_true
  | int i =>
    obtain ⟨t, rfl⟩ := rx
    cases y with
    | non => cases ry; exact PySem.EqNone.ne_int_none (fin_bl I q (by simp))
    | int j => obtain ⟨t', rfl⟩ := ry; exact ne_int (fin_bl I q (congrArg not dec_int))
    | str j => obtain ⟨t', rfl⟩ := ry; exact PySem.EqMixed.ne_int_str (fin_bl I q (by simp))
    | _ => exact absurd (show false = true from hs) Bool.false_ne_true
  | str i =>
    obtain ⟨t, rfl⟩ := rx
    cases y with
    | non => cases ry; exact PySem.EqNone.ne_str_none (fin_bl I q (by simp))
    | bl j => cases ry; exact PySem.EqMixed.ne_str_bool (fin_bl I q (by simp))
    | int j => obtain ⟨t', rfl⟩ := ry; exact PySem.EqMixed.ne_str_int (fin_bl I q (by simp))
    | str j => obtain ⟨t', rfl⟩ := ry; exact ne_str (fin_bl I q (congrArg not dec_str))
    | _ => exact absurd (show false = true from hs) Bool.false_ne_true
  | byt i =>
    obtain ⟨t, rfl⟩ := rx
    cases y with
    | byt j => obtain ⟨t', rfl⟩ := ry; exact PySem.W.ne_bytes (fin_bl I q (congrArg not dec_byt))
    | _ => exact absurd (show false = true from hs) Bool.false_ne_true
  | _ => cases y <;> exact absurd (show false = true from hs) Bool.false_ne_true

theorem op_lt : OpR X (compareOp .Lt) (rI0 fun i j => .bl (decide (i < j))) := opB0 fun _ _ _ _ _ _ _ q => lt_int q
theorem op_le : OpR X (compareOp .LtE) (rI0 fun i j => .bl (decide (i ≤ j))) := opB0 fun _ _ _ _ _ _ _ q => le_int q
theorem op_gt : OpR X (compareOp .Gt) (rI0 fun i j => .bl (decide (j < i))) := opB0 fun _ _ _ _ _ _ _ q => gt_int q
theorem op_ge : OpR X (compareOp .GtE) (rI0 fun i j => .bl (decide (j ≤ i))) := opB0 fun _ _ _ _ _ _ _ q => ge_int q
theorem op_in_str : OpR X (compareOp .In) (fun x y H Q => ∃ i j, x = .str i ∧ y = .str j ∧ Q (.bl (!(Builtin.Str.occurrences j i 0 j.length 1).isEmpty)) H) := by
  intro pins s σ H x y v u Q I rx ry h
  obtain ⟨i, j, rfl, rfl, q⟩ := h
  obtain ⟨t, rfl⟩ := rx
  obtain ⟨t', rfl⟩ := ry
  exact in_str (fin_bl I q rfl)

theorem op_isN : OpR X (compareOp .Is) (fun x y H Q => y = .non ∧ Q (.bl (decide (x = .non))) H) := by
  intro pins s σ H x y v u Q I rx ry h
  obtain ⟨rfl, q⟩ := h
  cases ry
  refine is_none_gen (fin_bl I q ?_)
  cases x <;> first
    | (cases rx; rfl)
    | (obtain ⟨t, rfl⟩ := rx; rfl)
theorem nomark (b : Expr) {op : CmpOp} (h : op ≠ .In := by decide) (h2 : op ≠ .NotIn := by decide) : behindInMarks op b = false := by
  have e1 : (op == CmpOp.In) = false := by cases op <;> first | rfl | exact absurd rfl h
  have e2 : (op == CmpOp.NotIn) = false := by cases op <;> first | rfl | exact absurd rfl h2
  cases b <;> simp [behindInMarks, e1, e2]
theorem pe_cmpR {op : CmpOp} {r : R2} (ho : OpR X (compareOp op) r) (ha : PE X a ta) (hb : PE X b tb) (hm : behindInMarks op b = false) : PE X (.Compare a [op] [b] pos) (tOp r ta tb) := by
  intro pins s σ H Q I h
  exact wpAny_Compare1 (binT ha hb I h fun v u s2 x y H2 I2 rx ry q => ho pins s2 σ H2 x y v u Q I2 rx ry q) hm
def tTest (t : TE) : TT := fun σ H Q => t σ H fun x H' => ∃ k, x = .bl k ∧ Q k H'
theorem pt_cmpR {op : CmpOp} {r : R2} (ho : OpR X (compareOp op) r) (ha : PE X a ta) (hb : PE X b tb) (hm : behindInMarks op b = false) : PT X (.Compare a [op] [b] pos) (tTest (tOp r ta tb)) := by
  intro pins s σ H Q I h
  refine wpAny_isTrue_Compare1 (thn (ha pins s σ H _ I h) fun v s1 ⟨x, H1, I1, r1, q1⟩ => thn (hb pins s1 σ H1 _ I1 q1) fun u s2 ⟨y, H2, I2, r2, q2⟩ =>
    thn (ho pins s2 σ H2 x y v u _ I2 r1 r2 q2) fun c s3 ⟨z, H3, I3, r3, k, e, q3⟩ => ?_) hm
  subst e
  cases r3
  exact wpAny_truthy_bool ⟨H3, I3, q3⟩
def tChain (r r' : R2) (ta tb tc : TE) : TE := fun σ H Q => ta σ H fun x H1 => tb σ H1 fun y H2 => r x y H2 fun z H3 => ∃ k, z = .bl k ∧
  (if k = true then tc σ H3 fun w' H4 => r' y w' H4 Q else Q (.bl false) H3)
theorem line63 : (sizeLine : Nat) < 2 ^ 63 := by rw [sizeLine_eq]; decide
theorem op_add_str : OpR X (binaryOp .Add) (fun x y H Q => ∃ i j, x = .str i ∧ y = .str j ∧ i.length + j.length ≤ sizeLine ∧ Q (.str (i ++ j)) H) := by
  intro pins s σ H x y v u Q I rx ry h
  obtain ⟨i, j, rfl, rfl, hz, q⟩ := h
  obtain ⟨t, rfl⟩ := rx
  obtain ⟨t', rfl⟩ := ry
  exact add_str (fun t' tk => ⟨.str (i ++ j), H, I.tok _, ⟨_, rfl⟩, q⟩) hz
theorem vals1 {x : V} {us : List Value} (r : Vals [x] us) : ∃ u, us = [u] ∧ RelV x u := by
  cases r with
  | cons r1 r2 => cases r2; exact ⟨_, rfl, r1⟩
theorem vals2 {x y : V} {us : List Value} (r : Vals [x, y] us) : ∃ u w', us = [u, w'] ∧ RelV x u ∧ RelV y w' := by
  cases r with
  | cons r1 r2 =>
    cases r2 with
    | cons r3 r4 => cases r4; exact ⟨_, _, rfl, r1, r3⟩
theorem call_min2 (hc : X.calm = true) : CallR X (.builtin "min") (fun xs H Q => ∃ i j, xs = [.int i, .int j] ∧ Q (.int (if j < i then j else i)) H) := by
  intro pins s σ H xs us Q I r h
  obtain ⟨i, j, rfl, q⟩ := h
  obtain ⟨u, w', rfl, ⟨t, rfl⟩, ⟨t', rfl⟩⟩ := vals2 r
  refine min_two_ints (I.ok.hd hc) fun h' tk k => ⟨_, H, I.kept k, ?_, q⟩
  by_cases hj : j < i
  · rw [if_pos hj, if_pos hj]; exact ⟨_, rfl⟩
  · rw [if_neg hj, if_neg hj]; exact ⟨_, rfl⟩
theorem call_str_int : CallR X (.type "str") (fun xs H Q => ∃ i, xs = [.int i] ∧ i.natAbs.log2 < 1920 ∧ Q (.str (toString i)) H) := by
  intro pins s σ H xs us Q I r h
  obtain ⟨i, rfl, hz, q⟩ := h
  obtain ⟨u, rfl, t, rfl⟩ := vals1 r
  exact PySem.P.str_of_int hz ⟨.str _, H, I.tok _, ⟨_, rfl⟩, q⟩
end
end L2

namespace L2
open PySem PySem.Spec PyProof.Rows

structure ObjM (h : Heap) (x dx C : Addr) (mA : Str → Option Value) : Prop where
  obj : h.get? x = some (PySem.W.instObj C dx)
  ns : h.Ns1 dx mA
  ne : dx ≠ x

theorem lookIn_ns {h : Heap} {dx : Addr} {mA : Str → Option Value} (n : h.Ns1 dx mA) : ∃ od, h.get? dx = some od ∧ ∀ name, PySem.W.lookIn name od = some (mA name) := by
  obtain ⟨o, es, ep, ho, hd, hk, _, hm⟩ := n
  refine ⟨o, ho, fun name => ?_⟩
  have e := hm name
  unfold nsFind findBy at e
  rw [← Array.find?_toList] at e
  unfold PySem.W.lookIn
  rw [hd]
  dsimp only
  split
  · rename_i y q
    rw [q] at e
    exact congrArg some e
  · rename_i q
    rw [q] at e
    have a : es.toList.any (·.refKey) = false := by
      rw [List.any_eq_false]
      intro y hy
      obtain ⟨z, t, hkey⟩ := hk y (Array.mem_toList_iff.mp hy)
      simp [DictEntry.refKey, hkey]
    have a' : ¬ es.toList.any (·.refKey) = true := by rw [a]; exact Bool.false_ne_true
    rw [if_neg a']
    exact congrArg some e

theorem ObjM.look {h : Heap} {x dx C : Addr} {mA : Str → Option Value} (I : ObjM h x dx C mA) : ∃ od, PySem.W.InstAt h x (PySem.W.instObj C dx) C (some od) ∧ ∀ name, PySem.W.lookIn name od = some (mA name) :=
  let ⟨od, ho, hl⟩ := lookIn_ns I.ns
  ⟨od, ⟨I.obj, rfl, rfl, ho⟩, hl⟩

section
variable {prog : Program} {w : World} {A : Around} {E : Value → Shared → Prop} {s : Shared} {K : PySem.W.Frag} {x dx C f : Addr} {mA : Str → Option Value} {name : Str} {v : Value}

theorem get_map {expr : Bool} {Q : Value → Shared → Prop} (X : K.In s.heap) (I : ObjM s.heap x dx C mA) (hg : PySem.W.plainGet K C name = true) (hh : PySem.W.hasDictIn K C = true)
    (ha : PySem.W.findIn K (.ref C) name = some none) (hv : mA name = some v) (hv' : PySem.W.handedIn v = true) (h : Q v { s with toks := s.toks + 1 }) :
    wpAny (model prog w) A (getAttr (.ref x) name expr) Q E s := by
  obtain ⟨od, J, hl⟩ := I.look
  exact PySem.W.get_value X J (PySem.W.plainGet_of hg).1 (PySem.W.findObj_own hh ha rfl (by rw [hl, hv])) hv' h

theorem get_meth {pl : Sem Bool} {Q : Value × List Value → Shared → Prop} (X : K.In s.heap) (I : ObjM s.heap x dx C mA) (hg : PySem.W.plainGet K C name = true)
    (hf : PySem.W.findIn K (.ref C) name = some (some (.ref f))) (ht : PySem.W.isFn K (.ref f) = true) (hv : mA name = none) (h : Q (.ref f, [.ref x]) s) :
    wpAny (model prog w) A (getMethod (.ref x) name pl) Q E s := by
  obtain ⟨od, J, hl⟩ := I.look
  exact PySem.W.method_fn X J (PySem.W.plainGet_of hg).1 (PySem.W.plainGet_of hg).2 hf (beq_iff_eq.mp ht) (by show (PySem.W.lookIn name od).map (·.isSome) = some false; rw [hl, hv]; rfl) h

theorem set_map {ns : List Str} {Q : Unit → Shared → Prop} (X : K.In s.heap) (I : ObjM s.heap x dx C mA)
    (hs : PySem.W.findIn K (.ref C) "__setattr__" = some (some (.builtin "object.__setattr__"))) (hp : PySem.W.plainOver K C = true) (ht : PySem.W.takerIn K C name = some none) (hh : PySem.W.hasDictIn K C = true)
    (hw : PySem.Within mA ns) (hsz : ns.length ≤ sizeLine)
    (h : ∀ h', ObjM h' x dx C (fun y => if y = name then some v else mA y) → Heap.SameBut dx s.heap h' → Q () { s with heap := h', toks := s.toks + 2 }) :
    wpAny (model prog w) A (setAttr (.ref x) name v) Q E s := by
  obtain ⟨od, J, hl⟩ := I.look
  refine PySem.W.set_plain X J hs (PySem.W.osa_open (s := { s with toks := s.toks + 1 }) (r := none) X J hp ht fun b => ?_)
  obtain ⟨cd, hc, hd'⟩ := PySem.W.any_some hh
  have hx : s.heap.get? x = some ⟨.ref C, some dx, .plain, #[]⟩ := I.obj
  refine wpAny_bind (wpAny_pure (wpAny_bind (wpAny_bind (wpAny_loadPart hx (wpAny_bind (PySem.W.Looks.here (s := { s with toks := s.toks + 1 }) (PySem.W.looks_clsIn X hc) ?_))))))
  rw [hd']
  refine wpAny_pure (a := some dx) (wpAny_bind (wpAny_pure (wpAny_bind ?_)))
  refine wpAny_nsSet1 (s := { s with toks := s.toks + 1 }) I.ns fun h' hn2 hs2 => ?_
  obtain ⟨oD, esD, epD, hoD, hdD, hcD⟩ := hn2.count (PySem.Within.cons name v hw)
  refine wpAny_bind (wpAny_lookBehind hoD (by rw [hdD]; exact pastItsLine_dict (Nat.le_trans hcD (by rw [List.length_cons]; omega))) ?_)
  exact wpAny_pure (h _ ⟨(hs2.2 _ (Ne.symm I.ne)).trans I.obj, hn2, I.ne⟩ hs2)

theorem make_map {R : Result → Shared → Prop} {vs : List Value} {kw : List (Str × Value)} (X : K.In s.heap) (hm : PySem.W.makesIn K C = true)
    (hi : PySem.W.findIn K (.ref C) "__init__" = some (some (.ref f))) (hf : PySem.W.typeIn K (.ref f) = some (.type "function"))
    (h : codeAny (model prog w) (A.under (.builtin "type.__call__" ⟨.ref C :: vs, kw⟩)) (.call (.ref f) ⟨.ref (s.heap.objs.size + 1) :: vs, kw⟩) (PySem.W.InitBack (s.heap.objs.size + 1) R)
      { s with heap := (s.heap.push PySem.W.emptyDict).push (PySem.W.instObj C s.heap.objs.size) }) :
    codeAny (model prog w) A (.call (.ref C) ⟨vs, kw⟩) R s := by
  obtain ⟨hh, g, d, t, os⟩ := s
  exact PySem.W.make_core (PySem.W.makes_of X hm) (PySem.W.looks_findIn X hi) (fun self => PySem.W.bind_fn X self hf) (.inl rfl) h
end

def putF (f : Str) (v : V) : List (Str × V) → List (Str × V)
  | [] => [(f, v)]
  | (g, x) :: r => if g = f then (g, v) :: r else (g, x) :: putF f v r
theorem lookup_putF (f g : Str) (v : V) : ∀ fs : List (Str × V), (putF f v fs).lookup g = if g = f then some v else fs.lookup g
  | [] => by
    show List.lookup g [(f, v)] = _
    by_cases h : g = f
    · have hb : (g == f) = true := beq_iff_eq.mpr h
      simp only [List.lookup, hb, if_pos h]
    · have hb : (g == f) = false := beq_eq_false_iff_ne.mpr h
      simp only [List.lookup, hb, if_neg h]
  | (k, x) :: r => by
    have ih := lookup_putF f g v r
    rw [show putF f v ((k, x) :: r) = (if k = f then (k, v) :: r else (k, x) :: putF f v r) from rfl]
    by_cases hk : k = f
    · rw [if_pos hk]
      by_cases h : g = k
      · have hb : (g == k) = true := beq_iff_eq.mpr h
        simp only [List.lookup, hb, if_pos (h.trans hk)]
      · have hb : (g == k) = false := beq_eq_false_iff_ne.mpr h
        simp only [List.lookup, hb, if_neg (fun e : g = f => h (e.trans hk.symm))]
    · rw [if_neg hk]
      by_cases h : g = k
      · have hb : (g == k) = true := beq_iff_eq.mpr h
        simp only [List.lookup, hb, if_neg (fun e : g = f => hk (h.symm.trans e))]
      · have hb : (g == k) = false := beq_eq_false_iff_ne.mpr h
        simp only [List.lookup, hb]
        exact ih
theorem keys_putF (f : Str) (v : V) : ∀ fs : List (Str × V), f ∈ (putF f v fs).map (·.1) ∧ ∀ g, g ∈ fs.map (·.1) → g ∈ (putF f v fs).map (·.1)
  | [] => ⟨by simp [putF], fun g h => by simp at h⟩
  | (k, x) :: r => by
    obtain ⟨i1, i2⟩ := keys_putF f v r
    rw [show putF f v ((k, x) :: r) = (if k = f then (k, v) :: r else (k, x) :: putF f v r) from rfl]
    by_cases hk : k = f
    · rw [if_pos hk]
      subst hk
      exact ⟨by simp, fun g h => by simpa using h⟩
    · rw [if_neg hk]
      refine ⟨?_, fun g h => ?_⟩
      · rw [List.map_cons]
        exact List.mem_cons_of_mem _ i1
      · rw [List.map_cons] at h ⊢
        rcases List.mem_cons.mp h with e | e
        · exact List.mem_cons.mpr (.inl e)
        · exact List.mem_cons_of_mem _ (i2 g e)
theorem length_putF (f : Str) (v : V) : ∀ fs : List (Str × V), (putF f v fs).length ≤ fs.length + 1
  | [] => by simp [putF]
  | (k, x) :: r => by
    have ih := length_putF f v r
    rw [show putF f v ((k, x) :: r) = (if k = f then (k, v) :: r else (k, x) :: putF f v r) from rfl]
    by_cases hk : k = f
    · rw [if_pos hk, List.length_cons, List.length_cons]; omega
    · rw [if_neg hk, List.length_cons, List.length_cons]; omega

theorem RelO.some_of {v : V} {o : Option Value} (r : RelO (some v) o) : ∃ u, o = some u ∧ RelV v u := by
  cases o with
  | none => exact (show False from r).elim
  | some u => exact ⟨u, rfl, r⟩
theorem RelO.none_of {o : Option Value} (r : RelO none o) : o = none := by
  cases o with
  | none => rfl
  | some u => exact (show False from r).elim
theorem handed_of {v : V} {u : Value} (r : RelV v u) : PySem.W.handedIn u = true := by
  cases v with
  | non => cases (show u = Value.none from r); rfl
  | bl b => cases (show u = Value.bool b from r); rfl
  | int i => obtain ⟨t, e⟩ := (show ∃ t, u = Value.int i t from r); cases e; rfl
  | str x => obtain ⟨t, e⟩ := (show ∃ t, u = Value.str x t from r); cases e; rfl
  | byt b => obtain ⟨t, e⟩ := (show ∃ t, u = Value.bytes b t from r); cases e; rfl
  | flt b => obtain ⟨t, e⟩ := (show ∃ t, u = Value.float b t from r); cases e; rfl
  | ref a => cases (show u = Value.ref a from r); rfl
  | ty n => cases (show u = Value.type n from r); rfl

section
variable {P : Program} {w : World} {H H' : Hp} {h h' : Heap} {a C dx : Addr} {fs fs' : List (Str × V)}
theorem ins_get (hok : HOk P w H h) (e : H a = some (.ins C dx fs)) : ∃ mA, ObjM h a dx C mA ∧ (∀ f, RelO (fs.lookup f) (mA f)) ∧ PySem.Within mA (fs.map (·.1)) ∧ fs.length ≤ 1000 ∧ H dx = some (.own a) := by
  obtain ⟨d, z, ne, ob, mA, n, r, q⟩ := (show ObjOk P w H h a (.ins C dx fs) from hok a _ e)
  exact ⟨mA, ⟨ob, n, ne⟩, r, q, z, d⟩
end

structure Cls (K : PySem.W.Frag) (C : Addr) : Prop where
  pg : PySem.W.plainGet K C Str.empty = true
  hd : PySem.W.hasDictIn K C = true
  po : PySem.W.plainOver K C = true
  sa : PySem.W.findIn K (.ref C) "__setattr__" = some (some (.builtin "object.__setattr__"))
theorem Cls.get {K : PySem.W.Frag} {C : Addr} (c : Cls K C) (f : Str) : PySem.W.plainGet K C f = true := c.pg
def NoAttr (K : PySem.W.Frag) (C : Addr) (f : Str) : Prop := PySem.W.findIn K (.ref C) f = some none
theorem NoAttr.taker {K : PySem.W.Frag} {C : Addr} {f : Str} (n : NoAttr K C f) : PySem.W.takerIn K C f = some none := by
  unfold PySem.W.takerIn
  rw [show PySem.W.findIn K (.ref C) f = some none from n]
  rfl
structure Meth (K : PySem.W.Frag) (C : Addr) (m : Str) (f : Addr) : Prop where
  at_ : PySem.W.findIn K (.ref C) m = some (some (.ref f))
  fn : PySem.W.isFn K (.ref f) = true
  kp : PySem.W.keepIn K (.ref f) = true

section
variable {X : Cx} {pins : List (Addr × Obj)} {σ : St} {H : Hp} {s : Shared} {a C dx : Addr} {fs : List (Str × V)} {f : Str} {v : V} {A : Around} {E : Value → Shared → Prop}

theorem getattr_ok {b : Bool} {Q : Value → Shared → Prop} (I : Inv X pins σ H s) (e : H a = some (.ins C dx fs)) (c : Cls X.K C) (n : NoAttr X.K C f) (l : fs.lookup f = some v)
    (h : ∀ u s', Inv X pins σ H s' → RelV v u → Q u s') : wpAny (model X.prog X.w) A (getAttr (.ref a) f b) Q E s := by
  obtain ⟨mA, O, r, _, _, _⟩ := ins_get I.hok e
  obtain ⟨u, hu, ru⟩ := RelO.some_of (v := v) (o := mA f) (by rw [← l]; exact r f)
  exact get_map I.kIn O (c.get f) c.hd n hu (handed_of ru) (h u _ (I.tok _) ru)

theorem getmeth_ok {m : Str} {g : Addr} {pl : Sem Bool} {Q : Value × List Value → Shared → Prop} (I : Inv X pins σ H s) (e : H a = some (.ins C dx fs)) (c : Cls X.K C) (k : Meth X.K C m g) (l : fs.lookup m = none)
    (h : Q (.ref g, [.ref a]) s) : wpAny (model X.prog X.w) A (getMethod (.ref a) m pl) Q E s := by
  obtain ⟨mA, O, r, _, _, _⟩ := ins_get I.hok e
  have hn : mA m = none := RelO.none_of (by rw [← l]; exact r m)
  exact get_meth I.kIn O (c.get m) k.at_ k.fn hn h

theorem setattr_ok {y : V} {u : Value} {Q : Unit → Shared → Prop} (I : Inv X pins σ H s) (e : H a = some (.ins C dx fs)) (c : Cls X.K C) (n : NoAttr X.K C f) (hl : fs.length < 1000) (ry : RelV y u)
    (h : ∀ s', Inv X pins σ (upd H a (.ins C dx (putF f y fs))) s' → Q () s') : wpAny (model X.prog X.w) A (setAttr (.ref a) f u) Q E s := by
  obtain ⟨mA, O, r, wi, _, ho⟩ := ins_get I.hok e
  have hz : (fs.map (·.1)).length ≤ sizeLine := by rw [List.length_map, sizeLine_eq]; omega
  refine set_map I.kIn O c.sa c.po n.taker c.hd wi hz fun h' O' sb => h _ ?_
  have hd : ∃ o, h'.get? dx = some o := let ⟨o, _, _, e', _⟩ := O'.ns; ⟨o, e'⟩
  refine I.write (x := a) (e := dx) (by rw [e]; exact True.intro) (.inr ho) (fun b q hb z => (sb.2 b hb).trans z) hd ?_
  refine ⟨by rw [upd_ne O.ne]; exact ho, ?_, O.ne, O'.obj, _, O'.ns, fun g => ?_, fun g hg => ?_⟩
  · have := length_putF f y fs; omega
  · show RelO ((putF f y fs).lookup g) (if g = f then some u else mA g)
    rw [lookup_putF]
    by_cases q : g = f
    · rw [if_pos q, if_pos q]; exact ry
    · rw [if_neg q, if_neg q]; exact r g
  · by_cases q : g = f
    · rw [q]; exact (keys_putF f y fs).1
    · refine (keys_putF f y fs).2 g (wi g fun z => hg ?_)
      show (if g = f then some u else mA g) = none
      rw [if_neg q]; exact z

theorem Inv.made (I : Inv X pins σ H s) : Inv X pins σ (upd (upd H s.heap.objs.size (.own (s.heap.objs.size + 1))) (s.heap.objs.size + 1) (.ins C s.heap.objs.size []))
    { s with heap := (s.heap.push PySem.W.emptyDict).push (PySem.W.instObj C s.heap.objs.size) } := by
  have e1 : (s.heap.push PySem.W.emptyDict).get? s.heap.objs.size = some PySem.W.emptyDict := Heap.get?_push_size s.heap rfl
  have e2 : ((s.heap.push PySem.W.emptyDict).push (PySem.W.instObj C s.heap.objs.size)).get? (s.heap.objs.size + 1) = some (PySem.W.instObj C s.heap.objs.size) := by
    have := Heap.get?_push_size (s.heap.push PySem.W.emptyDict) (o := PySem.W.instObj C s.heap.objs.size) rfl
    rwa [Heap.size_push] at this
  have e3 : (s.heap.push PySem.W.emptyDict).Ns s.heap.objs.size (fun _ => none) := ⟨PySem.W.emptyDict, #[], _, e1, rfl, (fun e he => absurd he (by simp)), fun _ => rfl⟩
  have I1 := I.laid (a := s.heap.objs.size) (o := .own (s.heap.objs.size + 1)) (h' := s.heap.push PySem.W.emptyDict) (t' := s.toks) (fun b u q => Heap.get?_push_of_some _ q) (Nat.le_refl _) ⟨_, e1⟩
  refine I1.laid (a := s.heap.objs.size + 1) (o := .ins C s.heap.objs.size []) (t' := s.toks) (fun b u q => Heap.get?_push_of_some _ q) (Nat.le_of_eq (Heap.size_push _ _)) ?_
  have ne : s.heap.objs.size ≠ s.heap.objs.size + 1 := Nat.ne_of_lt (Nat.lt_succ_self _)
  refine ⟨by rw [upd_ne ne, upd_same], Nat.zero_le _, ne, e2, fun _ => none, (Heap.Ns1.of_empty e3).at fun o q => Heap.get?_push_of_some _ q, fun _ => True.intro, fun y hy => absurd rfl hy⟩

theorem attr_of {prog : Program} {w : World} {env : Env} {e : Expr} {f : Str} {pos : Pos} {s : Shared} {Q : Value → Shared → Prop} (hb : attributeBase e f env (eval e env) = eval e env)
    (h : wpAny (model prog w) A (eval e env) (fun o s₁ => wpAny (model prog w) A (getAttr o f true) Q E s₁) E s) : wpAny (model prog w) A (eval (.Attribute e f pos) env) Q E s :=
  Attribute_any_ h (by rw [arm_eval_Attribute, hb])
end

def tFld (K : PySem.W.Frag) (ta : TE) (f : Str) : TE := fun σ H Q => ta σ H fun x H1 => ∃ a C dx fs v, x = .ref a ∧ H1 a = some (.ins C dx fs) ∧ Cls K C ∧ NoAttr K C f ∧ fs.lookup f = some v ∧ Q v H1
def sFld (K : PySem.W.Frag) (ta tv : TE) (f : Str) : TS := fun D σ H => tv σ H fun y H1 => ta σ H1 fun x H2 => ∃ a C dx fs, x = .ref a ∧ H2 a = some (.ins C dx fs) ∧ Cls K C ∧ NoAttr K C f ∧ fs.length < 1000 ∧
  D.nx σ (upd H2 a (.ins C dx (putF f y fs)))
def InOp (X : Cx) (op : Operator) (rd : V → V → Hp → VK → Prop) : Prop :=
  ∀ (pins : List (Addr × Obj)) (s : Shared) (σ : St) (H : Hp) (x y : V) (u v : Value) (Q : VK), Inv X pins σ H s → RelV x u → RelV y v → rd x y H Q → wpAny (model X.prog X.w) X.A (inplaceOp op u v) (EP X pins σ Q) X.xe s
def sFldAug (K : PySem.W.Frag) (ta tv : TE) (rd : V → V → Hp → VK → Prop) (f : Str) : TS := fun D σ H => ta σ H fun x H1 => ∃ a C dx fs v, x = .ref a ∧ H1 a = some (.ins C dx fs) ∧ Cls K C ∧ NoAttr K C f ∧ fs.lookup f = some v ∧
  tv σ H1 fun y H2 => rd v y H2 fun z H3 => ∃ dx' fs', H3 a = some (.ins C dx' fs') ∧ fs'.length < 1000 ∧ D.nx σ (upd H3 a (.ins C dx' (putF f z fs')))

section
variable {X : Cx} {o e value : Expr} {f : Str} {pos pos' tpos : Pos} {ta tv : TE}
theorem pe_fld (he : PE X e ta) (hb : attributeBase e f X.env (eval e X.env) = eval e X.env) : PE X (.Attribute e f pos) (tFld X.K ta f) := by
  intro pins s σ H Q I h
  refine attr_of hb (thn (he pins s σ H _ I h) fun u s1 ⟨x, H1, I1, rx, a, C, dx, fs, v, ex, ea, c, n, l, q⟩ => ?_)
  subst ex
  obtain rfl : u = Value.ref a := rx
  exact getattr_ok I1 ea c n l fun u' s2 I2 ru => ⟨v, H1, I2, ru, q⟩
theorem ps_fld (ha : PE X o ta) (hv : PE X value tv) (hs : swapsWith value (some (.Attribute o f pos')) pos.line X.env = pure false) : PS X (.Assign [.Attribute o f pos'] value pos) (sFld X.K ta tv f) := by
  intro pins s σ H D I h
  refine plainObj_wpAny_Assign_Attribute (thn (hv pins s σ H _ I h) fun u s1 ⟨y, H1, I1, ry, q⟩ => thn (ha pins s1 σ H1 _ I1 q) fun ov s2 ⟨x, H2, I2, rx, a, C, dx, fs, ex, ea, c, n, l, q2⟩ => ?_) hs
  subst ex
  obtain rfl : ov = Value.ref a := rx
  exact setattr_ok I2 ea c n l ry fun s3 I3 => ⟨σ, _, I3, q2⟩
theorem ps_fldaug {op : Operator} {rd : V → V → Hp → VK → Prop} (ha : PE X o ta) (hv : PE X value tv) (hop : InOp X op rd) : PS X (.AugAssign (.Attribute o f tpos) op value pos) (sFldAug X.K ta tv rd f) := by
  intro pins s σ H D I h
  refine wpAny_AugAssign_AttributeAny (thn (ha pins s σ H _ I h) fun ov s1 ⟨x, H1, I1, rx, a, C, dx, fs, v, ex, ea, c, n, l, q⟩ => ?_)
  subst ex
  obtain rfl : ov = Value.ref a := rx
  refine getattr_ok I1 ea c n l fun u s2 I2 ru => thn (hv pins s2 σ H1 _ I2 q) fun w3 s3 ⟨y, H2, I3, ry, q3⟩ => thn (hop pins s3 σ H2 v y u w3 _ I3 ru ry q3) fun w4 s4 ⟨z, H3, I4, rz, dx', fs', ea', l', q4⟩ => ?_
  exact setattr_ok I4 ea' c n l' rz fun s5 I5 => ⟨σ, _, I5, q4⟩
def rAdd : V → V → Hp → VK → Prop := fun x y H Q => ∃ i j, x = .int i ∧ y = .int j ∧ Q (.int (i + j)) H
theorem in_add : InOp X .Add rAdd := by
  rintro pins s σ H x y u v Q I rx ry ⟨i, j, rfl, rfl, q⟩
  obtain ⟨t, rfl⟩ := (show ∃ t, u = Value.int i t from rx)
  obtain ⟨t', rfl⟩ := (show ∃ t', v = Value.int j t' from ry)
  exact PyProof.Rows.iadd_int ⟨.int (i + j), H, I.tok _, ⟨_, rfl⟩, q⟩
end

section
variable {X : Cx} {pins : List (Addr × Obj)} {σ : St} {H : Hp} {s : Shared} {A : Around} {E : Value → Shared → Prop} {Q : Value → Shared → Prop} {c : Value} {b : Bool}
inductive TyOf (K : PySem.W.Frag) (H : Hp) : V → Value → Prop where
  | non : TyOf K H .non (.type "NoneType")
  | bl (x : Bool) : TyOf K H (.bl x) (.type "bool")
  | int (i : Int) : TyOf K H (.int i) (.type "int")
  | str (x : Str) : TyOf K H (.str x) (.type "str")
  | flt (x : UInt64) : TyOf K H (.flt x) (.type "float")
  | lst {a : Addr} {xs : List V} (e : H a = some (.lst xs)) : TyOf K H (.ref a) (.type "list")
  | frz {a : Addr} {o : Obj} {xs : List V} (e : H a = some (.frz o (.lst xs))) : TyOf K H (.ref a) (.type "list")
  | tup {a : Addr} {xs : List V} (e : H a = some (.tup xs)) : TyOf K H (.ref a) (.type "tuple")
  | dK {a : Addr} {kvs : List (Key × V)} (e : H a = some (.dK kvs)) : TyOf K H (.ref a) (.type "dict")
  | dT {a : Addr} {kvs : List (List Key × V)} (e : H a = some (.dT kvs)) : TyOf K H (.ref a) (.type "dict")
  | ins {a C dx : Addr} {fs : List (Str × V)} (e : H a = some (.ins C dx fs)) (cl : Cls K C) (ha : PySem.W.findIn K (.ref C) "__class__" = some (some (.builtin "object.__class__")))
      (hn : PySem.W.specialIn K (.builtin "object.__class__") "__get__" = some (some (.builtin "getset_descriptor.__get__"))) (htk : PySem.W.takesIn K (.builtin "object.__class__") = some true)
      (hm : PySem.W.mroIn K C (.type "object") = some true) : TyOf K H (.ref a) (.ref C)
theorem isinst_ok {x : V} {u t : Value} (I : Inv X pins σ H s) (rx : RelV x u) (ty : TyOf X.K H x t) (e : PySem.W.kitOne X.K t c = some b) (h : ∀ tk, Q (.bool b) { s with toks := tk }) :
    wpAny (model X.prog X.w) A (call (.builtin "isinstance") [u, c]) Q E s := by
  cases ty with
  | non => cases (show u = Value.none from rx); exact PySem.W.kia_one PySem.W.kitx_none I.kIn True.intro e (fun z => nomatch z) h
  | bl y => cases (show u = Value.bool y from rx); exact PySem.W.kia_one PySem.W.kitx_bool I.kIn True.intro e (fun z => nomatch z) h
  | int i => obtain ⟨t, q⟩ := (show ∃ t, u = Value.int i t from rx); cases q; exact PySem.W.kia_one PySem.W.kitx_int I.kIn True.intro e (fun z => nomatch z) h
  | str y => obtain ⟨t, q⟩ := (show ∃ t, u = Value.str y t from rx); cases q; exact PySem.W.kia_one PySem.W.kitx_str I.kIn True.intro e (fun z => nomatch z) h
  | flt y => obtain ⟨t, q⟩ := (show ∃ t, u = Value.float y t from rx); cases q; exact PySem.W.kia_one PySem.W.kitx_float I.kIn True.intro e (fun z => nomatch z) h
  | @lst a xs ea =>
    cases (show u = Value.ref a from rx)
    obtain ⟨_, _, n, _, h1⟩ := (show ObjOk X.prog X.w H s.heap a (.lst xs) from I.hok a _ ea)
    exact PySem.W.kia_one PySem.W.kitx_list I.kIn ⟨_, h1, rfl⟩ e (fun z => nomatch z) h
  | @frz a ob xs ea =>
    cases (show u = Value.ref a from rx)
    obtain ⟨_, _, _, n, _, h1⟩ := (show ObjOk X.prog X.w H s.heap a (.frz ob (.lst xs)) from I.hok a _ ea)
    exact PySem.W.kia_one PySem.W.kitx_list I.kIn ⟨_, h1, rfl⟩ e (fun z => nomatch z) h
  | @tup a xs ea =>
    cases (show u = Value.ref a from rx)
    obtain ⟨_, _, _, p⟩ := (show ObjOk X.prog X.w H s.heap a (.tup xs) from I.hok a _ ea)
    obtain ⟨o, h1, h2, _⟩ := p
    exact PySem.W.kia_one PySem.W.kitx_tuple I.kIn ⟨o, h1, h2⟩ e (fun z => nomatch z) h
  | @dK a kvs ea =>
    cases (show u = Value.ref a from rx)
    obtain ⟨_, _, vs, _, p⟩ := (show ObjOk X.prog X.w H s.heap a (.dK kvs) from I.hok a _ ea)
    obtain ⟨o, es, ep, h1, h2, _⟩ := p
    exact PySem.W.kia_one PySem.W.kitx_dict I.kIn ⟨o, h1, h2.1⟩ e (fun z => nomatch z) h
  | @dT a kvs ea =>
    cases (show u = Value.ref a from rx)
    obtain ⟨_, _, xs, _, o, es, ep, h1, h2, _⟩ := (show ObjOk X.prog X.w H s.heap a (.dT kvs) from I.hok a _ ea)
    exact PySem.W.kia_one PySem.W.kitx_dict I.kIn ⟨o, h1, h2.1⟩ e (fun z => nomatch z) h
  | @ins a C dx fs ea cl ha hn htk hm =>
    cases (show u = Value.ref a from rx)
    obtain ⟨mA, O, _⟩ := ins_get I.hok ea
    obtain ⟨od, J, _⟩ := O.look
    exact PySem.W.kia_one (PySem.W.kitx_own (cl.get _) cl.hd ha hn htk hm) I.kIn J e (fun z => nomatch z) h
end
end L2

namespace L2
open PySem PySem.Spec PyProof.Rows

structure Room (k : Nat) (A : Around) : Prop where
  hd : A.handled = none
  dp : A.depth + 3 * k + 5 < recursionLimit
  un : A.units + 16 * k + 200 < cLine
theorem Room.mono {j k : Nat} {A : Around} (r : Room k A) (h : j ≤ k) : Room j A := ⟨r.hd, by have := r.dp; omega, by have := r.un; omega⟩
theorem Room.deeper {k : Nat} {A : Around} (r : Room (k + 1) A) (env : Env) : Room k (A.deeper env) :=
  ⟨r.hd, by have := r.dp; show A.depth + 1 + 3 * k + 5 < _; omega, by have := r.un; show A.units + 3 + 16 * k + 200 < _; omega⟩
theorem Room.in1 {k : Nat} {A : Around} (r : Room (k + 1) A) : Room k A.in1 :=
  ⟨r.hd, by have := r.dp; show A.depth + 3 * k + 5 < _; omega, by have := r.un; show A.units + 1 + 16 * k + 200 < _; omega⟩
theorem make_depth {A : Around} {C : Addr} {us : List Value} {kw : List (Str × Value)} : (A.under (.builtin "type.__call__" ⟨.ref C :: us, kw⟩)).depth = A.depth + 1 := by
  first | rfl | simp [Around.under, Code.weight, Code.isCreation, Code.isGuard, Code.isCaller, Code.frames, Code.isFrame, guardIds]
theorem make_units {A : Around} {C : Addr} {us : List Value} {kw : List (Str × Value)} : (A.under (.builtin "type.__call__" ⟨.ref C :: us, kw⟩)).units = A.units + 1 := by
  first | rfl | simp [Around.under, Code.cUnits, Code.frames, Code.isFrame]
theorem Room.make {k : Nat} {A : Around} (r : Room (k + 1) A) (C : Addr) (us : List Value) (kw : List (Str × Value)) : Room k (A.under (.builtin "type.__call__" ⟨.ref C :: us, kw⟩)) :=
  ⟨r.hd, by have := r.dp; rw [make_depth]; omega, by have := r.un; rw [make_units]; omega⟩
theorem Room.depth {k : Nat} {A : Around} (r : Room k A) : A.depth < recursionLimit := by have := r.dp; omega
theorem Room.units {k : Nat} {A : Around} (r : Room k A) : A.units + 64 < cLine := by have := r.un; omega
def tNil : TA := fun _ H Q => Q [] H
def tCons (ta : TE) (tr : TA) : TA := fun σ H Q => ta σ H fun x H1 => tr σ H1 fun xs H2 => Q (x :: xs) H2
section
variable {X : Cx} {e : Expr} {es : List Expr} {te : TE} {t : TA} {pos : Pos}
theorem pa_nil : PA X [] tNil := fun _ _ _ _ H Q I h => Calls.spliced_nil ⟨[], H, I, .nil, h⟩
theorem pa_cons (ha : PE X e te) (hr : PA X es t) (hs : starEach (e :: es) X.env = (false, eval e X.env) :: starEach es X.env := by rfl) : PA X (e :: es) (tCons te t) := by
  intro pos pins s σ H Q I h
  rw [hs]
  show wpAny _ _ (spliced ((false, eval e X.env) :: backTo pos (starEach es X.env))) _ _ s
  refine Calls.spliced_cons (thn (ha pins s σ H _ I h) fun u s1 ⟨x, H1, I1, r1, q1⟩ => ?_)
  exact thn (hr pos pins s1 σ H1 _ I1 q1) fun us s2 ⟨xs, H2, I2, r2, q2⟩ => ⟨x :: xs, H2, I2, .cons r1 r2, q2⟩

def tTup (t : TA) : TE := fun σ H Q => t σ H fun xs H1 => xs.length ≤ sizeLine ∧ ∀ p, H1 p = none → Q (.ref p) (upd H1 p (.tup xs))
def tLst (t : TA) : TE := fun σ H Q => t σ H fun xs H1 => xs.length ≤ sizeLine ∧ ∀ p, H1 p = none → Q (.ref p) (upd H1 p (.lst xs))
theorem pe_tup {x1} (h : PA X es t) : PE X (.Tuple es x1 pos) (tTup t) := by
  intro pins s σ H Q I hq
  refine wpAny_Tuple_spliced (thn (h pos pins s σ H _ I hq) fun us s1 ⟨xs, H1, I1, r, z, q⟩ => ⟨by rw [← r.length]; exact z, ?_⟩)
  have hf : H1 s1.heap.objs.size = none := I1.hok.fresh (Nat.le_refl _)
  refine ⟨.ref s1.heap.objs.size, upd H1 s1.heap.objs.size (.tup xs), I1.laid (t' := s1.toks) (fun b u e => Heap.get?_push_of_some _ e) (Nat.le_refl _) ?_, rfl, q _ hf⟩
  exact ⟨z, us, r, ⟨_, Heap.get?_push_size _ rfl, rfl, _, rfl⟩⟩
theorem pe_lst (h : PA X es t) : PE X (.List es pos) (tLst t) := by
  intro pins s σ H Q I hq
  refine wpAny_List_spliced (thn (h pos pins s σ H _ I hq) fun us s1 ⟨xs, H1, I1, r, z, q⟩ => ⟨by rw [← r.length]; exact z, ?_⟩)
  have hf : H1 s1.heap.objs.size = none := I1.hok.fresh (Nat.le_refl _)
  refine ⟨.ref s1.heap.objs.size, upd H1 s1.heap.objs.size (.lst xs), I1.laid (t' := s1.toks) (fun b u e => Heap.get?_push_of_some _ e) (Nat.le_refl _) ?_, rfl, q _ hf⟩
  exact ⟨z, us, 0, r, Heap.get?_push_size _ rfl⟩
end

abbrev Sp := List V → Hp → VK → XK → Prop
abbrev CXT := List Env → Hp → Shared → XK → Value → Shared → Prop

structure Env0 (P : Program) (w : World) (K : PySem.W.Frag) (mg : Str → Option Value) (base : Heap) (A : Around) (outer : List Env) (s : Shared) (H : Hp) : Prop where
  frames : A.frames = some outer
  mod : Mod K mg base
  bs : ∀ b o, base.get? b = some o → s.heap.get? b = some o ∧ H b = none
  bsz : base.objs.size ≤ s.heap.objs.size
  funs : s.heap.FunFrames base outer
  frf : ∀ b ∈ frs outer, H b = none
  hok : HOk P w H s.heap
  bare : AllBare s.gens
def CE (outer : List Env) (P : Program) (w : World) (H : Hp) (s : Shared) (Q : VK) (u : Value) (s' : Shared) : Prop :=
  ∃ v H', s'.os = s.os ∧ AllBare s'.gens ∧ Un (frs outer) [] H H' s.heap s'.heap ∧ HOk P w H' s'.heap ∧ RelV v u ∧ Q v H'
def CR (CX : CXT) (outer : List Env) (P : Program) (w : World) (H : Hp) (s : Shared) (Q : VK) (E : XK) (r : Result) (s' : Shared) : Prop :=
  match r with
  | .ok (.ret u) => CE outer P w H s Q u s'
  | .ok _ => False
  | .error e => CX outer H s E e s'
structure FnOk (P : Program) (w : World) (K : PySem.W.Frag) (mg : Str → Option Value) (base : Heap) (CX : CXT) (k : Nat) (f : Addr) (fd : FuncData) (ps : List Str) (sp : Sp) : Prop where
  len : ∀ vs H Q E, sp vs H Q E → vs.length = ps.length
  run : ∀ (A : Around) (outer : List Env) (s : Shared) (H : Hp) (args : Args) (us : List Value) (vs : List V) (Q : VK) (E : XK), Room k A → Env0 P w K mg base A outer s H → BindsTo s fd args (ps.zip us) → Vals vs us → sp vs H Q E →
    codeAny (model P w) A (.call (.ref f) args) (CR CX outer P w H s Q E) s
theorem FnOk.mono {P : Program} {w : World} {K : PySem.W.Frag} {mg : Str → Option Value} {base : Heap} {CX : CXT} {j k : Nat} {f : Addr} {fd : FuncData} {ps : List Str} {sp : Sp} (F : FnOk P w K mg base CX j f fd ps sp) (h : j ≤ k) :
    FnOk P w K mg base CX k f fd ps sp := ⟨F.len, fun A outer s H args us vs Q E hr => F.run A outer s H args us vs Q E (hr.mono h)⟩
theorem FnOk.imp {P : Program} {w : World} {K : PySem.W.Frag} {mg : Str → Option Value} {base : Heap} {CX : CXT} {k : Nat} {f : Addr} {fd : FuncData} {ps : List Str} {sp sp' : Sp} (F : FnOk P w K mg base CX k f fd ps sp)
    (h : ∀ vs H Q E, sp' vs H Q E → sp vs H Q E) : FnOk P w K mg base CX k f fd ps sp' :=
  ⟨fun vs H Q E q => F.len vs H Q E (h _ _ _ _ q), fun A outer s H args us vs Q E hr he hb hv hs => F.run A outer s H args us vs Q E hr he hb hv (h _ _ _ _ hs)⟩

theorem Env0.make {P : Program} {w : World} {K : PySem.W.Frag} {mg : Str → Option Value} {base : Heap} {A : Around} {outer : List Env} {s : Shared} {H : Hp} (e : Env0 P w K mg base A outer s H) (C : Addr) (us : List Value) (kw : List (Str × Value)) :
    Env0 P w K mg base (A.under (.builtin "type.__call__" ⟨.ref C :: us, kw⟩)) outer s H := ⟨by first | exact e.frames | (simpa [Around.under, Code.envs, Code.isFrame, pushEnvs] using e.frames), e.mod, e.bs, e.bsz, e.funs, e.frf, e.hok, e.bare⟩
theorem Env0.in1 {P : Program} {w : World} {K : PySem.W.Frag} {mg : Str → Option Value} {base : Heap} {A : Around} {outer : List Env} {s : Shared} {H : Hp} (e : Env0 P w K mg base A outer s H) :
    Env0 P w K mg base A.in1 outer s H := ⟨e.frames, e.mod, e.bs, e.bsz, e.funs, e.frf, e.hok, e.bare⟩

section
variable {X : Cx} {pins : List (Addr × Obj)} {σ : St} {H : Hp} {s s' : Shared}
theorem Inv.env0 (I : Inv X pins σ H s) : Env0 X.prog X.w X.K X.mg X.base X.A X.stack s H :=
  ⟨I.ok.frames, I.ok.mod, I.bs, Nat.le_trans I.ok.bsz I.sz, I.stack, I.stkFree, I.hok, I.bare⟩
theorem Inv.after {Q : VK} {u : Value} (I : Inv X pins σ H s) (h : CE X.stack X.prog X.w H s Q u s') : EP X pins σ Q u s' := by
  obtain ⟨v, H', os, bare, un, hok, r, q⟩ := h
  obtain ⟨hh, g, d, t, os'⟩ := s'
  obtain rfl : os' = s.os := os
  exact ⟨v, H', I.call (h' := hh) (g' := g) (d' := d) (t' := t) (ch := []) un hok bare (fun b z => absurd z (by simp)), r, q⟩
end

def tCall (sp : Sp) (dvs : List V) (E : XK) (t : TA) : TE := fun σ H Q => t σ H fun vs H1 => sp (vs ++ dvs) H1 Q E
def tMeth (C : Addr) (m : Str) (sp : Sp) (dvs : List V) (E : XK) (ta : TE) (t : TA) : TE := fun σ H Q => ta σ H fun x H1 => ∃ a dx fs, x = .ref a ∧ H1 a = some (.ins C dx fs) ∧ fs.lookup m = none ∧
  t σ H1 fun vs H2 => sp (x :: (vs ++ dvs)) H2 Q E
def tMake (C : Addr) (sp : Sp) (dvs : List V) (E : XK) (t : TA) : TE := fun σ H Q => t σ H fun vs H1 => ∀ x dx, H1 x = none → H1 dx = none → dx ≠ x →
  sp (.ref x :: (vs ++ dvs)) (upd (upd H1 dx (.own x)) x (.ins C dx [])) (fun v H2 => v = .non ∧ Q (.ref x) H2) E

def Binds (K : PySem.W.Frag) (fd : FuncData) (ps : List Str) (ds : List Value) : Prop :=
  ∀ (s : Shared) (us : List Value), K.In s.heap → (us ++ ds).length = ps.length → BindsTo s fd ⟨us, []⟩ (ps.zip (us ++ ds))
theorem Binds.all {K : PySem.W.Frag} {fd : FuncData} {ps : List Str} (h : ∀ us : List Value, us.length = ps.length → bindArgs fd ⟨us, []⟩ = pure (ps.zip us)) : Binds K fd ps [] := fun s us _ hl => by
  rw [List.append_nil] at hl ⊢
  exact .of_eq (h us hl)

def Passes (CX : CXT) (X : Cx) (E : XK) : Prop := ∀ (pins : List (Addr × Obj)) (σ : St) (H : Hp) (s : Shared) (e : Value) (s' : Shared), Inv X pins σ H s → CX X.stack H s E e s' → X.xe e s'

section
variable {X : Cx} {CX : CXT} {k : Nat} {f C : Addr} {fd : FuncData} {ps : List Str} {sp : Sp} {dvs : List V} {ds : List Value} {E : XK} {x m : Str} {p pos apos : Pos} {e o : Expr} {es : List Expr} {ta : TE} {t : TA}

theorem run_fn {pins : List (Addr × Obj)} {σ : St} {H : Hp} {s : Shared} {Q : VK} {us : List Value} {vs : List V} (F : FnOk X.prog X.w X.K X.mg X.base CX k f fd ps sp) (hr : Room k X.A) (hb : Binds X.K fd ps ds) (hd : Vals dvs ds) (hx : Passes CX X E)
    (I : Inv X pins σ H s) (r : Vals vs us) (h : sp (vs ++ dvs) H Q E) : wpAny (model X.prog X.w) X.A (call (.ref f) us) (EP X pins σ Q) X.xe s := by
  have r2 : Vals (vs ++ dvs) (us ++ ds) := r.append hd
  have hl : (us ++ ds).length = ps.length := by rw [← r2.length]; exact F.len _ _ _ _ h
  refine wpAny_call (codeAny_mono (F.run X.A X.stack s H ⟨us, []⟩ (us ++ ds) (vs ++ dvs) Q E hr I.env0 (hb s us I.kIn hl) r2 h) fun r s' hq => ?_)
  cases r with
  | error e => exact hx pins σ H s e s' I hq
  | ok fl =>
    cases fl with
    | ret u => exact I.after hq
    | next => exact False.elim hq
    | brk => exact False.elim hq
    | cont => exact False.elim hq

theorem pe_call (F : FnOk X.prog X.w X.K X.mg X.base CX k f fd ps sp) (hr : Room k X.A) (hg : Gl X x) (hm : X.mg x = some (.ref f)) (hk : PySem.W.keepIn X.K (.ref f) = true) (hb : Binds X.K fd ps ds) (hd : Vals dvs ds) (hx : Passes CX X E)
    (ha : PA X (e :: es) t) (hdb : (x == ("__debug__" : Str)) = false := by decide) (he : starEach (e :: es) X.env = (false, eval e X.env) :: starEach es X.env := by rfl) (hpl : (backTo pos (starEach es X.env)).any (·.1) = false := by rfl) :
    PE X (.Call (.Name x p) (e :: es) [] pos) (tCall sp dvs E t) := by
  intro pins s σ H Q I h
  refine wpAny_Call_Name_kw (ld_glob I hg hm ?_ hdb)
  refine PySem.W.callWith_K (h₀ := X.base) I.ok.mod.kin hk (thn (ha pos pins s σ H _ I h) fun us s1 ⟨vs, H1, I1, r, q⟩ => ⟨I1.kIn, ?_⟩) he hpl
  exact run_fn F hr hb hd hx I1 r q
theorem pe_meth {pl : Sem Bool} (he : PE X o ta) (c : Cls X.K C) (hm : Meth X.K C m f) (F : FnOk X.prog X.w X.K X.mg X.base CX k f fd ps sp) (hr : Room k X.A) (hb : Binds X.K fd ps ds) (hd : Vals dvs ds) (hx : Passes CX X E) (ha : PA X (e :: es) t)
    (hst : starEach (e :: es) X.env = (false, eval e X.env) :: starEach es X.env := by rfl) (hpl : (backTo pos (starEach es X.env)).any (·.1) = false := by rfl)
    (ht : eval (.Call (.Attribute o m apos) (e :: es) [] pos) X.env = (do
      let ov ← eval o X.env
      standAt apos.atName
      let (f, first) ← holding [ov] (getMethod ov m pl)
      callWith pos f first (backTo pos (starEach (e :: es) X.env)) (backToKw pos (keywordEach [] X.env))) := by rfl) :
    PE X (.Call (.Attribute o m apos) (e :: es) [] pos) (tMeth C m sp dvs E ta t) := by
  intro pins s σ H Q I h
  refine PySem.W.methodCall_KW (pl := pl) (thn (he pins s σ H _ I h) fun u s1 ⟨x, H1, I1, rx, a, dx, fs, ex, ea, l, q⟩ => ?_) ht
  subst ex
  obtain rfl : u = Value.ref a := rx
  refine getmeth_ok I1 ea c hm l ?_
  refine PySem.W.callWith_K (first := [.ref a]) (h₀ := X.base) I.ok.mod.kin hm.kp (thn (ha pos pins s1 σ H1 _ I1 q) fun us s2 ⟨vs, H2, I2, r, q2⟩ => ⟨I2.kIn, ?_⟩) hst hpl
  exact run_fn (us := .ref a :: us) (vs := .ref a :: vs) F hr hb hd hx I2 (.cons rfl r) q2
theorem pe_meth0 {pl : Sem Bool} (he : PE X o ta) (c : Cls X.K C) (hm : Meth X.K C m f) (F : FnOk X.prog X.w X.K X.mg X.base CX k f fd ps sp) (hr : Room k X.A) (hb : Binds X.K fd ps ds) (hd : Vals dvs ds) (hx : Passes CX X E)
    (ht : eval (.Call (.Attribute o m apos) [] [] pos) X.env = (do
      let ov ← eval o X.env
      standAt apos.atName
      let (f, first) ← holding [ov] (getMethod ov m pl)
      callWith pos f first (backTo pos (starEach [] X.env)) (backToKw pos (keywordEach [] X.env))) := by rfl) :
    PE X (.Call (.Attribute o m apos) [] [] pos) (tMeth C m sp dvs E ta tNil) := by
  intro pins s σ H Q I h
  refine PySem.W.methodCall_KW (pl := pl) (thn (he pins s σ H _ I h) fun u s1 ⟨x, H1, I1, rx, a, dx, fs, ex, ea, l, q⟩ => ?_) ht
  subst ex
  obtain rfl : u = Value.ref a := rx
  refine getmeth_ok I1 ea c hm l ?_
  exact PySem.W.callWith_K0 (first := [.ref a]) I1.kIn hm.kp (run_fn (us := [.ref a]) (vs := [.ref a]) F hr hb hd hx I1 (.cons rfl .nil) q)

structure Mk (K : PySem.W.Frag) (C f : Addr) : Prop where
  makes : PySem.W.makesIn K C = true
  init : PySem.W.findIn K (.ref C) "__init__" = some (some (.ref f))
  fn : PySem.W.isFn K (.ref f) = true
  kp : PySem.W.keepIn K (.ref C) = true

theorem run_make {pins : List (Addr × Obj)} {σ : St} {H : Hp} {s : Shared} {Q : VK} {us : List Value} {vs : List V} (M : Mk X.K C f) (F : FnOk X.prog X.w X.K X.mg X.base CX k f fd ps sp) (hr : Room (k + 1) X.A) (hb : Binds X.K fd ps ds) (hd : Vals dvs ds)
    (hx : Passes CX X E) (I : Inv X pins σ H s) (r : Vals vs us)
    (h : ∀ x dx, H x = none → H dx = none → dx ≠ x → sp (.ref x :: (vs ++ dvs)) (upd (upd H dx (.own x)) x (.ins C dx [])) (fun v H2 => v = .non ∧ Q (.ref x) H2) E) :
    wpAny (model X.prog X.w) X.A (call (.ref C) us) (EP X pins σ Q) X.xe s := by
  have hq := h (s.heap.objs.size + 1) s.heap.objs.size (I.hok.fresh (Nat.le_succ _)) (I.hok.fresh (Nat.le_refl _)) (Nat.ne_of_lt (Nat.lt_succ_self _))
  have I2 := Inv.made (C := C) I
  have r2 : Vals (V.ref (s.heap.objs.size + 1) :: (vs ++ dvs)) (Value.ref (s.heap.objs.size + 1) :: (us ++ ds)) := .cons rfl (r.append hd)
  have hl : (Value.ref (s.heap.objs.size + 1) :: us ++ ds).length = ps.length := by
    have e := r2.length
    rw [F.len _ _ _ _ hq] at e
    exact e.symm
  refine wpAny_call (make_map (f := f) I.kIn M.makes M.init (beq_iff_eq.mp M.fn) (codeAny_mono (F.run _ X.stack _ _ ⟨Value.ref (s.heap.objs.size + 1) :: us, []⟩ (Value.ref (s.heap.objs.size + 1) :: (us ++ ds)) _ _ E (hr.make C us [])
    (I2.env0.make C us []) (hb _ (Value.ref (s.heap.objs.size + 1) :: us) I2.kIn hl) r2 hq) fun r s' hq' => ?_))
  cases r with
  | error e => exact hx pins σ _ _ e s' I2 hq'
  | ok fl =>
    cases fl with
    | ret u =>
      obtain ⟨v, H', I3, rv, ev, q3⟩ := I2.after hq'
      subst ev
      exact ⟨rv, ⟨V.ref (s.heap.objs.size + 1), H', I3, rfl, q3⟩⟩
    | next => exact False.elim hq'
    | brk => exact False.elim hq'
    | cont => exact False.elim hq'
theorem pe_make (M : Mk X.K C f) (F : FnOk X.prog X.w X.K X.mg X.base CX k f fd ps sp) (hr : Room (k + 1) X.A) (hg : Gl X x) (hm : X.mg x = some (.ref C)) (hb : Binds X.K fd ps ds) (hd : Vals dvs ds) (hx : Passes CX X E)
    (ha : PA X (e :: es) t) (hdb : (x == ("__debug__" : Str)) = false := by decide) (he : starEach (e :: es) X.env = (false, eval e X.env) :: starEach es X.env := by rfl) (hpl : (backTo pos (starEach es X.env)).any (·.1) = false := by rfl) :
    PE X (.Call (.Name x p) (e :: es) [] pos) (tMake C sp dvs E t) := by
  intro pins s σ H Q I h
  refine wpAny_Call_Name_kw (ld_glob I hg hm ?_ hdb)
  refine PySem.W.callWith_K (h₀ := X.base) I.ok.mod.kin M.kp (thn (ha pos pins s σ H _ I h) fun us s1 ⟨vs, H1, I1, r, q⟩ => ⟨I1.kIn, ?_⟩) he hpl
  exact run_make M F hr hb hd hx I1 r q
end

section
variable {X : Cx} {CX : CXT} {k : Nat} {f C : Addr} {fd : FuncData} {ps ks : List Str} {sp : Sp} {E : XK} {x m : Str} {p pos apos kpos : Pos} {e o : Expr} {es : List Expr} {kws : List Keyword} {te ta : TE} {t tk : TA} {nm : Option Str}
variable {g : List Value → List Value → List Value} {gV : List V → List V → List V}
end

structure FnScope (N P : List Str) (sc : Scope) : Prop where
  kind : sc.kind = .function
  co : sc.isCoroutine = false
  gen : sc.isGenerator = false
  nd : N.Nodup
  pre : N.take P.length = P
  par : ∀ x ∈ P, sc.names.lookup x = some .local ∨ sc.names.lookup x = some .cell
  nofree : ∀ y ∈ sc.names, y.2 ≠ .free

theorem bindL_out {kindOf : Str → Option NameKind} {x : Str} : ∀ {binds : List (Str × Value)} {m : Str → Option Value}, (∀ v, (x, v) ∉ binds) → bindL kindOf binds m x = m x
  | [], _, _ => rfl
  | (n, v) :: r, m, h => by
    unfold bindL
    rw [bindL_out fun w hw => h w (List.mem_cons_of_mem _ hw)]
    split
    · have : x ≠ n := by rintro rfl; exact h v List.mem_cons_self
      simp [this]
    · rfl
theorem bindC_out {kindOf : Str → Option NameKind} {x : Str} : ∀ {binds : List (Str × Value)} {m : Str → Option Value}, (∀ v, (x, v) ∉ binds) → bindC kindOf binds m x = m x
  | [], _, _ => rfl
  | (n, v) :: r, m, h => by
    unfold bindC
    rw [bindC_out fun w hw => h w (List.mem_cons_of_mem _ hw)]
    split
    · rfl
    · have : x ≠ n := by rintro rfl; exact h v List.mem_cons_self
      simp [this]
theorem bindL_get {kindOf : Str → Option NameKind} {x : Str} {v : Value} : ∀ {P : List Str} {vs : List Value} {i : Nat} {m : Str → Option Value}, P.Nodup → P[i]? = some x → vs[i]? = some v → kindOf x = some .local →
    bindL kindOf (P.zip vs) m x = some v
  | [], _, _, _, _, h, _, _ => by simp at h
  | _ :: _, [], _, _, _, _, h, _ => by simp at h
  | p :: P, w :: vs, 0, m, nd, h1, h2, hk => by
    simp at h1 h2; subst h1; subst h2
    show bindL kindOf ((p, w) :: P.zip vs) m p = _
    unfold bindL
    rw [bindL_out fun v hv => (List.nodup_cons.mp nd).1 (List.of_mem_zip hv).1, if_pos hk]
    simp
  | p :: P, w :: vs, i + 1, m, nd, h1, h2, hk => by
    show bindL kindOf ((p, w) :: P.zip vs) m x = _
    unfold bindL
    exact bindL_get (i := i) (List.nodup_cons.mp nd).2 (by simpa using h1) (by simpa using h2) hk
theorem bindC_get {kindOf : Str → Option NameKind} {x : Str} {v : Value} : ∀ {P : List Str} {vs : List Value} {i : Nat} {m : Str → Option Value}, P.Nodup → P[i]? = some x → vs[i]? = some v → kindOf x ≠ some .local →
    bindC kindOf (P.zip vs) m x = some v
  | [], _, _, _, _, h, _, _ => by simp at h
  | _ :: _, [], _, _, _, _, h, _ => by simp at h
  | p :: P, w :: vs, 0, m, nd, h1, h2, hk => by
    simp at h1 h2; subst h1; subst h2
    show bindC kindOf ((p, w) :: P.zip vs) m p = _
    unfold bindC
    rw [bindC_out fun v hv => (List.nodup_cons.mp nd).1 (List.of_mem_zip hv).1, if_neg hk]
    simp
  | p :: P, w :: vs, i + 1, m, nd, h1, h2, hk => by
    show bindC kindOf ((p, w) :: P.zip vs) m x = _
    unfold bindC
    exact bindC_get (i := i) (List.nodup_cons.mp nd).2 (by simpa using h1) (by simpa using h2) hk

def start (N : List Str) (vs : List V) : St := vs.map some ++ List.replicate (N.length - vs.length) none

def cxOf (CX : CXT) (P : Program) (w : World) (K : PySem.W.Frag) (mg : Str → Option Value) (base : Heap) (N : List Str) (qual : Str) (scope : Scope) (f : Addr) (cd : Value) (A : Around) (outer : List Env) (s : Shared) (H : Hp) (E : XK) : Cx where
  prog := P
  w := w
  K := K
  mg := mg
  base := base
  A := A.deeper (envOfC qual scope s.heap.objs.size f cd)
  N := N
  s₀ := s
  H₀ := H
  env := envOfC qual scope s.heap.objs.size f cd
  outer := outer
  stack := envOfC qual scope s.heap.objs.size f cd :: outer
  ex := []
  calm := true
  fn := fun _ => true
  pn := []
  xe := fun e s' => wpAny (model P w) (A.deeper (envOfC qual scope s.heap.objs.size f cd)) (leaving (envOfC qual scope s.heap.objs.size f cd) e) (fun _ s'' => CX outer H s E e s'') (fun e' s'' => CX outer H s E e' s'') s'

theorem cell_has {sc : Scope} {n : Nat} {x : Str} (h : sc.names.lookup x = some .cell) : ∃ c, (cellsFrom n sc.names []).lookup x = some c := by
  have q := PySem.W.cellsFrom_some sc.names n [] (.inl h)
  exact Option.isSome_iff_exists.mp q

theorem inv_start {CX : CXT} {P : Program} {w : World} {K : PySem.W.Frag} {mg : Str → Option Value} {base : Heap} {N ps : List Str} {qual : Str} {scope : Scope} {f : Addr} {cd : Value} {A : Around} {outer : List Env} {s s1 : Shared} {H : Hp} {E : XK} {us : List Value} {vs : List V}
    (S : FnScope N ps scope) (hd : A.handled = none) (e0 : Env0 P w K mg base A outer s H) (hl : vs.length = ps.length) (r : Vals vs us)
    (x : InCallC s s.heap.objs.size (bindL (envOfC qual scope s.heap.objs.size f cd).kindOf (ps.zip us) fun _ => none) (cellsFrom (s.heap.objs.size + 1) scope.names []) (bindC (envOfC qual scope s.heap.objs.size f cd).kindOf (ps.zip us) fun _ => none) s1) :
    Inv (cxOf CX P w K mg base N qual scope f cd A outer s H E) [] (start N vs) H s1 := by
  have hpl : ps.length ≤ N.length := by have := congrArg List.length S.pre; rw [List.length_take] at this; omega
  obtain ⟨h1, tk, rfl, hk⟩ := x.done
  have noA : ∀ b : Addr, b ∉ (cxOf CX P w K mg base N qual scope f cd A outer s H E).ex := fun b z => absurd (show b ∈ ([] : List Addr) from z) (by simp)
  refine ⟨⟨e0.mod, S.kind, rfl, rfl, Nat.le_refl _, fun y z c h1 h2 => ?_, fun y hy => ?_, fun y c _ h => ?_, fun _ => hd, Around.frames_deeper e0.frames, .inr ⟨rfl, rfl⟩, fun b z => absurd z (noA b), e0.bs, e0.bsz, fun b _ _ => noA b, fun b z => absurd z (noA b), e0.funs, e0.frf⟩,
    rfl, e0.bare, Un.kept hk, ⟨_, x.toInCall.ns, fun i y v h1 h2 h3 => ?_⟩, fun y c h => ⟨_, x.cell y c h⟩, e0.hok.fresh (Nat.le_refl _), fun y c h => ?_, fun p hp => absurd (show p ∈ ([] : List (Addr × Obj)) from hp) (by simp), e0.hok.kept hk, ?_⟩
  · exact name_of_addr x.apart (PySem.mem_of_lookup h1) (PySem.mem_of_lookup h2)
  · have hy : scope.names.lookup y = some .cell ∨ scope.names.lookup y = some .free := hy
    rcases hy with hy | hy
    · exact cell_has hy
    · exact absurd rfl (S.nofree _ (PySem.mem_of_lookup hy))
  · exact Nat.le_of_lt (x.above y c (PySem.mem_of_lookup h))
  · have hi : i < vs.length := by
      unfold start at h2
      by_cases hi : i < vs.length
      · exact hi
      · rw [List.getElem?_append_right (by simpa using hi)] at h2
        rw [List.getElem?_replicate] at h2
        split at h2 <;> cases h2
    have ha : vs[i]? = some v := by
      unfold start at h2
      rw [List.getElem?_append_left (by simpa using hi), List.getElem?_map] at h2
      cases e : vs[i]? with
      | none => rw [e] at h2; cases h2
      | some a => rw [e] at h2; cases h2; rfl
    obtain ⟨u, hu, rv⟩ := r.get ha
    have hp : ps[i]? = some y := by
      rw [← S.pre, List.getElem?_take_of_lt (by omega)]; exact h1
    have ndP : ps.Nodup := by rw [← S.pre]; exact S.nd.sublist (List.take_sublist _ _)
    refine ⟨u, rv, ?_⟩
    rcases S.par y (List.mem_of_getElem? hp) with k | k
    · exact .inl ⟨k, bindL_get ndP hp hu k⟩
    · obtain ⟨c, e⟩ := cell_has (n := s.heap.objs.size + 1) k
      refine .inr ⟨.inl k, c, e, ?_⟩
      have q := x.cell y c e
      rw [bindC_get ndP hp hu (by show scope.names.lookup y ≠ _; rw [k]; decide)] at q
      exact q
  · exact e0.hok.fresh (Nat.le_of_lt (x.above y c (PySem.mem_of_lookup h)))
  · unfold start
    show _ = N.length
    rw [List.length_append, List.length_map, List.length_replicate]
    omega

theorem fn_of {CX : CXT} {P : Program} {w : World} {K : PySem.W.Frag} {mg : Str → Option Value} {base : Heap} {k : Nat} {f : Addr} {name qual : Str} {params : Arguments} {body : List Stmt} {scope : Scope} {dV kV doc pm cdv ct oc : Value} {an od : Option Addr}
    {osl : Array (Option Value)} {N ps : List Str} {sp : Sp} (lk : K.lookup f = some ⟨oc, od, .func (PySem.W.fnOf name qual params body scope dV kV doc pm an cdv ct), osl⟩) (hcd : PySem.W.codeIn K cdv qual = true) (S : FnScope N ps scope)
    (len : ∀ vs H Q E, sp vs H Q E → vs.length = ps.length)
    (hbody : ∀ (A : Around) (outer : List Env) (s : Shared) (H : Hp) (vs : List V) (Q : VK) (E : XK), Room k (A.deeper (envOfC qual scope s.heap.objs.size f cdv)) → sp vs H Q E →
      ∃ t, PSs (cxOf CX P w K mg base N qual scope f cdv A outer s H E) body t ∧ t { nx := fun _ H' => Q .non H', rt := Q } (start N vs) H) :
    FnOk P w K mg base CX (k + 1) f (PySem.W.fnOf name qual params body scope dV kV doc pm an cdv ct) ps sp := by
  refine ⟨len, fun A outer s H args us vs Q E hr e0 hb r hsp => ?_⟩
  have hl := len _ _ _ _ hsp
  have KX : K.In s.heap := e0.mod.kin.keeps fun b o e => (e0.bs b o e).1
  have lim : s.heap.NoLimit := e0.mod.nolimit.keeps fun b o e => (e0.bs b o e).1
  have hkind : ∀ y ∈ ps.zip us, scope.names.lookup y.1 = some .local ∨ (scope.names.lookup y.1 = some .cell ∧ ((cellsFrom (s.heap.objs.size + 1) scope.names []).lookup y.1).isSome = true) := fun ⟨n, v⟩ hy => by
    rcases S.par n (List.of_mem_zip hy).1 with q | q
    · exact .inl q
    · exact .inr ⟨q, PySem.W.cellsFrom_some _ _ _ (.inl q)⟩
  refine codeAny_call_function hr.depth (KX _ _ lk) rfl S.co S.gen rfl (PySem.W.codeRec_of KX hcd) (hb _ _ _ _ ?_)
  refine wpAny_newFunctionEnv_cells S.kind hkind fun env he s1 x => ?_
  subst he
  refine ⟨lim.keeps x.toInCall.keep, codeAny_func ?_⟩
  obtain ⟨t, ht, hq⟩ := hbody A outer s H vs Q E (hr.deeper _) hsp
  have I : Inv (cxOf CX P w K mg base N qual scope f cdv A outer s H E) [] (start N vs) H s1 := inv_start S hr.hd e0 hl r x
  refine wpAny_mono (ht [] s1 (start N vs) H _ I hq) (fun fl s' hs => ?_) fun e s' hs => hs
  have fin : ∀ {σ' : St} {H' : Hp} {v : V} {u : Value}, Inv (cxOf CX P w K mg base N qual scope f cdv A outer s H E) [] σ' H' s' → RelV v u → Q v H' → CE outer P w H s Q u s' :=
    fun {σ' H' v u} J rv q => ⟨v, H', J.os, J.bare, J.base, J.hok, rv, q⟩
  cases fl with
  | ret u =>
    obtain ⟨v, σ', H', J, rv, q⟩ := hs
    exact fin J rv q
  | next =>
    obtain ⟨σ', H', J, q⟩ := hs
    exact fin (v := V.non) (u := Value.none) J rfl q
  | brk =>
    obtain ⟨_, _, _, q⟩ := hs
    exact False.elim q
  | cont =>
    obtain ⟨_, _, _, q⟩ := hs
    exact False.elim q
end L2

namespace L2
open PySem PySem.Spec PyProof.Rows
section
variable {X : Cx} {x : Str} {p pos : Pos} {e : Expr} {es : List Expr} {t : TA} {id T : String} {r : List V → Hp → VK → Prop}

def tCB (r : List V → Hp → VK → Prop) (t : TA) : TE := fun σ H Q => t σ H fun vs H1 => r vs H1 Q
theorem pe_callB (hc : CallR X (.builtin id) r) (hg : Gl X x) (hm : X.mg x = none) (hv : bootBuiltins x = some (.builtin id)) (ha : PA X (e :: es) t) (hn : x ≠ "__name__" := by decide) (hdb : (x == ("__debug__" : Str)) = false := by decide)
    (he : starEach (e :: es) X.env = (false, eval e X.env) :: starEach es X.env := by rfl) (hpl : (backTo pos (starEach es X.env)).any (·.1) = false := by rfl) : PE X (.Call (.Name x p) (e :: es) [] pos) (tCB r t) := by
  intro pins s σ H Q I h
  refine wpAny_Call_Name_kw (ld_blt I hg hm hv ?_ hn hdb)
  exact PyProof.Rows.callWith_builtin1 (thn (ha pos pins s σ H _ I h) fun us s1 ⟨vs, H1, I1, r1, q1⟩ => hc pins s1 σ H1 vs us Q I1 r1 q1) he hpl
theorem pe_callTy (hc : CallR X (.type T) r) (hg : Gl X x) (hm : X.mg x = none) (hv : bootBuiltins x = some (.type T)) (ha : PA X (e :: es) t) (hn : x ≠ "__name__" := by decide) (hdb : (x == ("__debug__" : Str)) = false := by decide)
    (he : starEach (e :: es) X.env = (false, eval e X.env) :: starEach es X.env := by rfl) (hpl : (backTo pos (starEach es X.env)).any (·.1) = false := by rfl) : PE X (.Call (.Name x p) (e :: es) [] pos) (tCB r t) := by
  intro pins s σ H Q I h
  refine wpAny_Call_Name_kw (ld_blt I hg hm hv ?_ hn hdb)
  exact PyProof.Rows.callWith_type1 (thn (ha pos pins s σ H _ I h) fun us s1 ⟨vs, H1, I1, r1, q1⟩ => hc pins s1 σ H1 vs us Q I1 r1 q1) he hpl
end
end L2

namespace HT
open PySem PyProof.Rows

section
open PySem.SeqAt
open PySem.AutoSeq1 (wpAny_loadPart')
open PySem.MeetsSeq PySem.MeetsSeq2 PySem.MeetsSeq3

end

section
variable {prog : Program} {w : World} {A : Around} {E : Value → Shared → Prop} {s : Shared}

def sIx (n d : Nat) : Option Int → Nat
  | none => d
  | some v => if v < 0 then (v + (n : Int)).toNat else min v.toNat n
theorem sIx_none (n d : Nat) : sIx n d none = d := rfl
theorem sIx_nat (n d k : Nat) : sIx n d (some (k : Int)) = min k n := by
  show (if (k : Int) < 0 then ((k : Int) + (n : Int)).toNat else min (k : Int).toNat n) = min k n
  rw [if_neg (by omega), Int.toNat_natCast]
end
end HT

namespace L2
open PySem PySem.Spec PyProof.Rows

abbrev TO := St → Hp → (Option Int → Hp → Prop) → Prop
def PO (X : Cx) (e : Option Expr) (t : TO) : Prop :=
  ∀ (pins : List (Addr × Obj)) (s : Shared) (σ : St) (H : Hp) (Q : Option Int → Hp → Prop), Inv X pins σ H s → t σ H Q →
    wpAny (model X.prog X.w) X.A (evalPart e X.env) (fun u s' => ∃ o H', Inv X pins σ H' s' ∧ IsPart u o ∧ Q o H') X.xe s
def tNoPart : TO := fun _ H Q => Q none H
def tPart (t : TE) : TO := fun σ H Q => t σ H fun x H1 => ∃ i, x = .int i ∧ Q (some i) H1

section
variable {X : Cx} {e : Expr} {te : TE} {lo hi : Option Expr} {tl th : TO} {pos p2 : Pos}

theorem po_none : PO X none tNoPart := by
  intro pins s σ H Q I h
  rw [evalPart_none]
  exact wpAny_pure ⟨none, H, I, .none, h⟩
theorem po_some (h : PE X e te) : PO X (some e) (tPart te) := by
  intro pins s σ H Q I hw
  rw [evalPart_some]
  refine thn (h pins s σ H _ I hw) fun u s1 ⟨x, H1, I1, r1, q1⟩ => ?_
  obtain ⟨i, rfl, q⟩ := q1
  obtain ⟨t, rfl⟩ := r1
  exact ⟨some i, H1, I1, .int i t, q⟩

def SlR (X : Cx) (r : V → Option Int → Option Int → Hp → VK → Prop) : Prop :=
  ∀ (pins : List (Addr × Obj)) (s : Shared) (σ : St) (H : Hp) (x : V) (v vl vu : Value) (lo hi : Option Int) (sl : Addr) (Q : VK), Inv X pins σ H s → RelV x v → s.heap.IsSliceOf sl vl vu .none → IsPart vl lo → IsPart vu hi → r x lo hi H Q →
    ∃ T id, typeLookup (.type T) "__getitem__" = pure (some (.builtin id)) ∧ s.TypeIs v T ∧ wpAny (model X.prog X.w) X.A (getItem v (.ref sl)) (EP X pins σ Q) X.xe s
def tSl (r : V → Option Int → Option Int → Hp → VK → Prop) (te : TE) (tl th : TO) : TE := fun σ H Q => te σ H fun x H1 => tl σ H1 fun l H2 => th σ H2 fun u H3 => r x l u H3 Q
theorem pe_slice {r : V → Option Int → Option Int → Hp → VK → Prop} (hr : SlR X r) (he : PE X e te) (hl : PO X lo tl) (hu : PO X hi th) : PE X (.Subscript e (.Slice lo hi none p2) pos) (tSl r te tl th) := by
  intro pins s σ H Q I h
  refine Subscript_ (thn (he pins s σ H _ I h) fun v s1 ⟨x, H1, I1, r1, q1⟩ => ?_)
  refine wpAny_Slice (thn (hl pins s1 σ H1 _ I1 q1) fun vl s2 ⟨l, H2, I2, pl, q2⟩ => thn (hu pins s2 σ H2 _ I2 q2) fun vu s3 ⟨u, H3, I3, pu, q3⟩ => ?_)
  rw [evalPart_none]
  refine wpAny_pure ?_
  have I4 : Inv X pins σ H3 { s3 with heap := s3.heap.push { cls := .type "slice", data := .fields #[vl, vu, .none] } } := I3.kept (t' := s3.toks) fun b ob q => Heap.get?_push_of_some _ q
  obtain ⟨T, id, hT, ht, hg⟩ := hr pins { s3 with heap := s3.heap.push { cls := .type "slice", data := .fields #[vl, vu, .none] } } σ H3 x v vl vu l u s3.heap.objs.size Q I4 r1 (Heap.IsSliceOf.new ..) pl pu q3
  show wpAny (model X.prog X.w) X.A (subscriptTail e (.Slice lo hi none p2) v (.ref s3.heap.objs.size)) (EP X pins σ Q) X.xe { s3 with heap := s3.heap.push { cls := .type "slice", data := .fields #[vl, vu, .none] } }
  exact tail_any (ops := [.ref s3.heap.objs.size, v]) ht hT hg (by with_unfolding_all rfl)

def cutV (xs : List V) (lo hi : Option Int) : List V := (xs.drop (HT.sIx xs.length 0 lo)).take (HT.sIx xs.length xs.length hi - HT.sIx xs.length 0 lo)
theorem cutV_length (xs : List V) (lo hi : Option Int) : (cutV xs lo hi).length ≤ xs.length := by
  unfold cutV
  rw [List.length_take, List.length_drop]
  omega
end
end L2

namespace L2
open PySem PySem.Spec PyProof.Rows

def ixN (n : Nat) (i : Int) : Option Nat := if 0 ≤ i then (if i < n then some i.toNat else none) else if -(n : Int) ≤ i then some (i + n).toNat else none
def atI {α : Type} (xs : List α) (i : Int) : Option α := (ixN xs.length i).bind fun j => xs[j]?
theorem ixN_seq {n : Nat} {i : Int} {j : Nat} (h : ixN n i = some j) : seqIndex? i n = some j ∧ j < n ∧ -(n : Int) ≤ i ∧ i < n := by
  unfold ixN at h
  by_cases h0 : 0 ≤ i
  · rw [if_pos h0] at h
    by_cases h1 : i < n
    · rw [if_pos h1] at h
      have e : i.toNat = j := Option.some.inj h
      exact ⟨by rw [seqIndex_of h0 h1, e], by omega, by omega, h1⟩
    · rw [if_neg h1] at h; cases h
  · rw [if_neg h0] at h
    by_cases h1 : -(n : Int) ≤ i
    · rw [if_pos h1] at h
      have e : (i + n).toNat = j := Option.some.inj h
      exact ⟨by rw [seqIndex_neg (by omega) h1, e], by omega, h1, by omega⟩
    · rw [if_neg h1] at h; cases h
theorem atI_get {α : Type} {xs : List α} {i : Int} {v : α} (h : atI xs i = some v) : ∃ j, seqIndex? i xs.length = some j ∧ xs[j]? = some v ∧ j < xs.length ∧ -(xs.length : Int) ≤ i ∧ i < xs.length := by
  unfold atI at h
  cases e : ixN xs.length i with
  | none => rw [e] at h; cases h
  | some j =>
    rw [e] at h
    obtain ⟨h1, h2, h3, h4⟩ := ixN_seq e
    exact ⟨j, h1, h, h2, h3, h4⟩
theorem atI_nat {α : Type} {xs : List α} {j : Nat} {v : α} (h : xs[j]? = some v) : atI xs (j : Int) = some v := by
  have hj : j < xs.length := (List.getElem?_eq_some_iff.mp h).1
  have e : ixN xs.length (j : Int) = some j := by
    unfold ixN
    rw [if_pos (by omega), if_pos (by omega)]; simp
  unfold atI; rw [e]; exact h
def PlainIx (b : Expr) : Prop := ∀ o i, subscripted b false o i = operate [o, i] (getItem o i)
def IxR (X : Cx) (r : R2) : Prop :=
  ∀ (value slice : Expr) (pins : List (Addr × Obj)) (s : Shared) (σ : St) (H : Hp) (x y : V) (v u : Value) (Q : VK), Inv X pins σ H s → RelV x v → RelV y u → r x y H Q →
    subscripted slice false v u = operate [v, u] (getItem v u) → wpAny (model X.prog X.w) X.A (subscriptTail value slice v u) (EP X pins σ Q) X.xe s
def MtR (X : Cx) (id : String) (r : V → List V → Hp → VK → Prop) : Prop :=
  ∀ (pins : List (Addr × Obj)) (s : Shared) (σ : St) (H : Hp) (x : V) (xs : List V) (v : Value) (us : List Value) (Q : VK), Inv X pins σ H s → RelV x v → Vals xs us → r x xs H Q →
    wpAny (model X.prog X.w) X.A (call (.builtin id) (v :: us)) (EP X pins σ Q) X.xe s
section
variable {X : Cx} {a b : Expr} {ta tb : TE} {pos : Pos}
theorem pe_ix {r : R2} (hr : IxR X r) (ha : PE X a ta) (hb : PE X b tb) (hs : PlainIx b) : PE X (.Subscript a b pos) (tOp r ta tb) := by
  intro pins s σ H Q I h
  exact Subscript_ (binT ha hb I h fun v u s2 x y H2 I2 rx ry q => hr a b pins s2 σ H2 x y v u Q I2 rx ry q (hs _ _))

def rIxL (K : PySem.W.Frag) : R2 := fun x y H Q => ∃ p xs i v, x = .ref p ∧ y = .int i ∧ SqL K H p xs ∧ atI xs i = some v ∧ Q v H
def rIxT (K : PySem.W.Frag) : R2 := fun x y H Q => ∃ p xs i v, x = .ref p ∧ y = .int i ∧ SqT K H p xs ∧ atI xs i = some v ∧ Q v H
def rIxS : R2 := fun x y H Q => ∃ z i c, x = .str z ∧ y = .int i ∧ z.length ≤ sizeLine ∧ atI z.cps.toList i = some c ∧ Q (.str ⟨#[c]⟩) H
theorem ix_list : IxR X (rIxL X.K) := by
  intro value slice pins s σ H x y v u Q I rx ry h hs
  obtain ⟨p, xs, i, z, rfl, rfl, hq, he, q⟩ := h
  cases rx
  obtain ⟨t, rfl⟩ := ry
  obtain ⟨its, r, pl, hz⟩ := I.list hq
  obtain ⟨j, h1, h2, h3, h4, h5⟩ := atI_get he
  obtain ⟨w, ew, rw'⟩ := r.get h2
  have hl := r.length
  have hn := line63
  have fin : EP X pins σ Q w s := ⟨z, H, I, rw', q⟩
  by_cases h0 : 0 ≤ i
  · have hj : i.toNat = j := by
      rw [seqIndex_of h0 h5] at h1
      exact Option.some.inj h1
    exact item_listR pl.isList h0 (by omega) (by rw [hj]; simpa using ew) fin hs
  · have hj : (i + (its.toArray.size : Int)).toNat = j := by
      rw [seqIndex_neg (by omega) h4] at h1
      rw [List.size_toArray, ← hl]
      exact Option.some.inj h1
    exact subscriptTail_builtinR (x := w) pl.isList.typeIs slot_list_getitem.lookup
      (wpAny_getItem_list_neg (Q := fun r s' => r = w ∧ EP X pins σ Q r s') pl.isList (by omega) (by rw [List.size_toArray] <;> omega) (by omega) (by rw [hj]; simpa using ew) ⟨rfl, fin⟩) hs
theorem ix_tup : IxR X (rIxT X.K) := by
  intro value slice pins s σ H x y v u Q I rx ry h hs
  obtain ⟨p, xs, i, z, rfl, rfl, hq, he, q⟩ := h
  cases rx
  obtain ⟨t, rfl⟩ := ry
  obtain ⟨its, r, pl, hz⟩ := I.tuple hq
  obtain ⟨j, h1, h2, h3, h4, h5⟩ := atI_get he
  obtain ⟨w, ew, rw'⟩ := r.get h2
  have hl := r.length
  have hn := line63
  have fin : EP X pins σ Q w s := ⟨z, H, I, rw', q⟩
  exact subscriptTail_builtinR (x := w) pl.typeIs slot_tuple_getitem.lookup
    (getItem_tuple (j := j) (Q := fun r s' => r = w ∧ EP X pins σ Q r s') pl (by omega) (by omega) (by rw [List.size_toArray, ← hl]; exact h1) (by simpa using ew) ⟨rfl, fin⟩) hs
theorem ix_str : IxR X rIxS := by
  intro value slice pins s σ H x y v u Q I rx ry h hs
  obtain ⟨z, i, c, rfl, rfl, hz, he, q⟩ := h
  obtain ⟨t, rfl⟩ := rx
  obtain ⟨t', rfl⟩ := ry
  obtain ⟨j, h1, h2, h3, h4, h5⟩ := atI_get he
  have hl : z.cps.toList.length = z.length := by simp [Str.length]
  rw [hl] at h1 h4 h5
  have hn := line63
  exact tail_any (typeIs_str s z t) slot_str_getitem.lookup (getItem_str (c := c) (by
    have e1 : decide (i < -(2 ^ 63 : Int)) = false := decide_eq_false (by omega)
    have e2 : decide (i ≥ 2 ^ 63) = false := decide_eq_false (by omega)
    rw [e1, e2, Bool.or_false]) (by rw [h1]; simpa using h2) ⟨.str ⟨#[c]⟩, H, I.tok _, ⟨_, rfl⟩, q⟩) hs
theorem Inv.lst {pins : List (Addr × Obj)} {σ : St} {H : Hp} {s : Shared} {p : Addr} {xs : List V} (I : Inv X pins σ H s) (h : H p = some (.lst xs)) :
    ∃ (its : List Value) (n : Nat), Vals xs its ∧ s.heap.get? p = some { cls := .type "list", data := .seq its.toArray n } ∧ xs.length ≤ sizeLine := by
  obtain ⟨z, its, n, r, e⟩ := I.hok p _ h
  exact ⟨its, n, r, e, z⟩
theorem slice_bounds (lo hi : Option Int) (n : Nat) : (sliceBounds lo hi none n).1 = ((HT.sIx n 0 lo : Nat) : Int) ∧ (sliceBounds lo hi none n).2.1 = ((HT.sIx n n hi : Nat) : Int) ∧ (sliceBounds lo hi none n).2.2 = 1 := by
  refine ⟨?_, ?_, rfl⟩
  · cases lo with
    | none => simp [sliceBounds, HT.sIx]
    | some i =>
      simp only [sliceBounds, HT.sIx, Option.getD_none, show (1 : Int) > 0 by decide, if_true]
      by_cases h : i < 0
      · simp only [h, if_true] <;> omega
      · simp only [h, if_false] <;> omega
  · cases hi with
    | none => simp [sliceBounds, HT.sIx]
    | some i =>
      simp only [sliceBounds, HT.sIx, Option.getD_none, show (1 : Int) > 0 by decide, if_true]
      by_cases h : i < 0
      · simp only [h, if_true] <;> omega
      · simp only [h, if_false] <;> omega
theorem slicePick_cut (its : List Value) (lo hi : Option Int) : slicePick its.toArray lo hi none = ((its.drop (HT.sIx its.length 0 lo)).take (HT.sIx its.length its.length hi - HT.sIx its.length 0 lo)).toArray := by
  obtain ⟨h1, h2, h3⟩ := slice_bounds lo hi its.toArray.size
  unfold slicePick
  rw [h1, h2, h3]
  simp only [sliceRange_one, pick_run, List.size_toArray] <;> rfl
def rSlL (K : PySem.W.Frag) : V → Option Int → Option Int → Hp → VK → Prop := fun x lo hi H Q => ∃ a xs, x = .ref a ∧ SqL K H a xs ∧ ∀ p, H p = none → Q (.ref p) (upd H p (.lst (cutV xs lo hi)))
theorem sl_list : SlR X (rSlL X.K) := by
  intro pins s σ H x v vl vu lo hi sl Q I rx hs pl pu h
  obtain ⟨a, xs, rfl, hx, q⟩ := h
  cases rx
  obtain ⟨its, r, ht, hz⟩ := I.list hx
  have hlen := r.length
  refine ⟨"list", _, slot_list_getitem.lookup, ht.isList.typeIs, ?_⟩
  refine wpAny_getItem_list_slice ht.isList hs pl pu .none (by simp) ?_ (by rw [List.size_toArray] <;> omega)
  rw [slicePick_cut, ← hlen]
  refine ⟨.ref s.heap.objs.size, _, I.laid (t' := s.toks) (o := .lst (cutV xs lo hi)) (fun b ob q => Heap.get?_push_of_some _ q) (Nat.le_refl _) ?_, rfl, q _ (I.hok.fresh (Nat.le_refl _))⟩
  exact ⟨Nat.le_trans (cutV_length xs lo hi) hz, _, 0, (r.drop (HT.sIx xs.length 0 lo)).take (HT.sIx xs.length xs.length hi - HT.sIx xs.length 0 lo), Heap.get?_push_size _ rfl⟩

theorem call_len_seq : CallR X (.builtin "len") (fun xs H Q => ∃ p ys, xs = [.ref p] ∧ (SqL X.K H p ys ∨ SqT X.K H p ys) ∧ Q (.int ys.length) H) := by
  intro pins s σ H xs us Q I r h
  obtain ⟨p, ys, rfl, hq, q⟩ := h
  obtain ⟨u, rfl, rx⟩ := vals1 r
  cases rx
  have hn := line63
  rcases hq with hq | hq
  · obtain ⟨its, r', pl, hz⟩ := I.list hq
    have hlen := r'.length
    exact Calls.call_len_list pl.isList (by simp only [List.size_toArray] <;> omega) ⟨.int ys.length, H, I.tok _, ⟨s.toks + 1, by rw [List.size_toArray, hlen]⟩, q⟩
  · obtain ⟨its, r', pl, hz⟩ := I.tuple hq
    have hlen := r'.length
    exact len_tuple pl (by simp only [List.size_toArray] <;> omega) ⟨.int ys.length, H, I.tok _, ⟨s.toks + 1, by rw [List.size_toArray, hlen]⟩, q⟩
theorem call_len_str : CallR X (.builtin "len") (fun xs H Q => ∃ z, xs = [.str z] ∧ z.length ≤ sizeLine ∧ Q (.int z.length) H) := by
  intro pins s σ H xs us Q I r h
  obtain ⟨z, rfl, hz, q⟩ := h
  obtain ⟨u, rfl, t, rfl⟩ := vals1 r
  have hn := line63
  exact len_str (by omega) ⟨.int z.length, H, I.tok _, ⟨_, rfl⟩, q⟩
def tyV (K : PySem.W.Frag) (T : String) (x : V) (H : Hp) : Prop := match x with
  | .str _ => T = "str"
  | .int _ => T = "int"
  | .ref p => (T = "list" ∧ ∃ xs, SqL K H p xs) ∨ (T = "tuple" ∧ ∃ o, K.lookup p = some o ∧ o.cls = .type "tuple" ∧ o.dict = none) ∨
      (T = "dict" ∧ ((∃ kvs, H p = some (.dK kvs)) ∨ ∃ kvs, H p = some (.dT kvs))) ∨ (T = "set" ∧ ∃ S n, H p = some (.set S n))
  | _ => False
theorem tyV_is {pins : List (Addr × Obj)} {σ : St} {H : Hp} {s : Shared} {T : String} {x : V} {v : Value} (I : Inv X pins σ H s) (r : RelV x v) (ty : tyV X.K T x H) :
    s.TypeIs v T ∧ ∀ a, v = .ref a → ∃ ob, s.heap.get? a = some ob ∧ ob.dict = none := by
  cases x with
  | str z =>
    obtain ⟨t, rfl⟩ := r
    cases (show T = "str" from ty)
    exact ⟨typeIs_str s z t, fun _ e => nomatch e⟩
  | int i =>
    obtain ⟨t, rfl⟩ := r
    cases (show T = "int" from ty)
    exact ⟨typeIs_int s i t, fun _ e => nomatch e⟩
  | ref p =>
    cases r
    rcases ty with ⟨rfl, xs, hq⟩ | ⟨rfl, o, hk, hc, hd⟩ | ⟨rfl, hk⟩ | ⟨rfl, S, n, hk⟩
    · obtain ⟨its, _, pl, _⟩ := I.list hq
      refine ⟨pl.isList.typeIs, fun a e => ?_⟩
      cases e
      obtain ⟨o, n, e, c, hd, _⟩ := pl
      exact ⟨o, e, hd⟩
    · refine ⟨⟨o, I.kIn p o hk, hc⟩, fun a e => ?_⟩
      cases e
      exact ⟨o, I.kIn _ o hk, hd⟩
    · have z : ∃ o, s.heap.get? p = some o ∧ o.ExactDict := by
        rcases hk with ⟨kvs, hk⟩ | ⟨kvs, hk⟩
        · obtain ⟨_, _, _, _, o, _, _, e, ex, _⟩ := I.hok p _ hk
          exact ⟨o, e, ex⟩
        · obtain ⟨_, _, _, _, o, _, _, e, ex, _⟩ := I.hok p _ hk
          exact ⟨o, e, ex⟩
      obtain ⟨o, e, ex⟩ := z
      refine ⟨⟨o, e, ex.1⟩, fun a e2 => ?_⟩
      cases e2
      exact ⟨o, e, ex.2.1⟩
    · obtain ⟨o, _, _, _, e, ex, _⟩ := I.hok p _ hk
      refine ⟨⟨o, e, ex.1⟩, fun a e2 => ?_⟩
      cases e2
      exact ⟨o, e, ex.2.1⟩
  | _ => exact False.elim ty
def tBM0 (K : PySem.W.Frag) (T : String) (r : V → List V → Hp → VK → Prop) (to : TE) : TE := fun σ H Q => to σ H fun x H1 => tyV K T x H1 ∧ r x [] H1 Q
def tBM (K : PySem.W.Frag) (T : String) (r : V → List V → Hp → VK → Prop) (to : TE) (t : TA) : TE := fun σ H Q => to σ H fun x H1 => tyV K T x H1 ∧ t σ H1 fun xs H2 => r x xs H2 Q
variable {o e : Expr} {es : List Expr} {to : TE} {t : TA} {name : Str} {apos cpos : Pos} {T id : String} {r : V → List V → Hp → VK → Prop}
theorem pe_bm (pa : PlainAttrs T) (slot : Slot T name id) (hty : typeOf (.builtin id) = pure (.type "method_descriptor")) (hm : MtR X id r) (ho : PE X o to) (ha : PA X (e :: es) t)
    (hbase : attributeBase o name X.env (eval o X.env) = eval o X.env := by rfl)
    (hfew : ((backTo cpos (starEach (e :: es) X.env)).all (fun x => !x.1) && (backToKw cpos (keywordEach [] X.env)).all (fun x => x.1.isSome)
      && decide ((e :: es).length + ([] : List Keyword).length + (if ([] : List Keyword).isEmpty then 0 else 1) < 30)) = true := by rfl)
    (hline : (apos.endLine == cpos.line) = true := by rfl) (hs : starEach (e :: es) X.env = (false, eval e X.env) :: starEach es X.env := by rfl) (hplain : (backTo cpos (starEach es X.env)).any (·.1) = false := by rfl) :
    PE X (.Call (.Attribute o name apos) (e :: es) [] cpos) (tBM X.K T r to t) := by
  intro pins s σ H Q I h
  refine wpAny_Call_method_late hbase hfew hline rfl (thn (ho pins s σ H _ I h) fun v s1 ⟨x, H1, I1, r1, ty, q1⟩ => ?_)
  obtain ⟨h1, h2⟩ := tyV_is I1 r1 ty
  refine ⟨T, id, pa, slot, hty, h1, h2, ?_⟩
  have hA := ha cpos pins s1 σ H1 _ I1 q1
  rw [hs] at hA ⊢
  refine Calls.callWith_builtin (by show (false || (backTo cpos (starEach es X.env)).any (·.1)) = false; rw [hplain] <;> rfl) (Calls.evalArgs_plain ?_)
  exact thn hA fun us s2 ⟨vs, H2, I2, r2, q2⟩ => hm pins s2 σ H2 x vs v us Q I2 r1 r2 q2
/- xs.append(e), list.index on a module's tuple .. are MtR facts of 06m -/
end
end L2

namespace L2
open PySem PySem.Spec PyProof.Rows

def MtM (X : Cx) (id : String) (r : V → List V → Hp → VK → Prop) : Prop :=
  ∀ (pins : List (Addr × Obj)) (s : Shared) (σ : St) (H : Hp) (x : V) (xs : List V) (v : Value) (us : List Value) (Q : VK), Inv X pins σ H s → RelV x v → Vals xs us → r x xs H Q →
    wpAny (model X.prog X.w) X.A (call (.builtin id) (v :: us)) (EP X pins σ Q) X.xe s

theorem Vals.one : ∀ {x : V} {us : List Value}, Vals [x] us → ∃ u, us = [u] ∧ RelV x u
  | _, _, .cons r .nil => ⟨_, rfl, r⟩
theorem Vals.two : ∀ {x y : V} {us : List Value}, Vals [x, y] us → ∃ u v, us = [u, v] ∧ RelV x u ∧ RelV y v
  | _, _, _, .cons r (.cons q .nil) => ⟨_, _, rfl, r, q⟩
theorem Vals.zero : ∀ {us : List Value}, Vals [] us → us = []
  | _, .nil => rfl
theorem Vals.eraseIdx : ∀ {xs : List V} {us : List Value} (i : Nat), Vals xs us → Vals (xs.eraseIdx i) (us.eraseIdx i)
  | _, _, _, .nil => .nil
  | _, _, 0, .cons _ t => t
  | _, _, i + 1, .cons r t => .cons r (Vals.eraseIdx i t)
theorem Vals.reverse {xs : List V} {us : List Value} (h : Vals xs us) : Vals xs.reverse us.reverse := by
  induction h with
  | nil => exact .nil
  | cons r t ih => rw [List.reverse_cons, List.reverse_cons]; exact Vals.append ih (.cons r .nil)
section
variable {X : Cx} {pins : List (Addr × Obj)} {σ : St} {H : Hp} {s : Shared} {l b : Addr} {xs ys zs : List V}

theorem Inv.lset {its its' : List Value} {n : Nat} {f : Array Value → Array Value} {t' : Nat} (I : Inv X pins σ H s) (hH : H l = some (.lst xs))
    (e : s.heap.get? l = some { cls := .type "list", data := .seq its.toArray n }) (hf : f its.toArray = its'.toArray) (hv : Vals ys its') (hz : ys.length ≤ sizeLine) :
    Inv X pins σ (upd H l (.lst ys)) { s with heap := s.heap.update l (Obj.mapSeq f), toks := t' } := by
  have q := PySem.IsL.update e f
  rw [hf] at q
  refine I.write (x := l) (e := l) (by rw [hH]; exact trivial) (.inl rfl) (fun b' u hb hu => (Heap.get?_update_other s.heap (Obj.mapSeq f) (Ne.symm hb)).trans hu) ⟨_, q⟩ ?_
  exact ⟨hz, its', _, hv, q⟩
theorem Inv.lnew {its : List Value} {t' : Nat} (I : Inv X pins σ H s) (hv : Vals ys its) (hz : ys.length ≤ sizeLine) :
    Inv X pins σ (upd H s.heap.objs.size (.lst ys)) { s with heap := s.heap.push { cls := .type "list", data := .seq its.toArray }, toks := t' } :=
  I.laid (fun _ _ q => Heap.get?_push_of_some _ q) (Nat.le_refl _) ⟨hz, its, 0, hv, Heap.get?_push_size _ rfl⟩
theorem Inv.fresh (I : Inv X pins σ H s) : H s.heap.objs.size = none := I.hok.fresh (Nat.le_refl _)
theorem Inv.lstM (I : Inv X pins σ H s) (hH : H l = some (.lst xs)) : xs.length ≤ sizeLine ∧ ∃ (its : List Value) (n : Nat), Vals xs its ∧ xs.length = its.length ∧ s.heap.get? l = some { cls := .type "list", data := .seq its.toArray n } := by
  obtain ⟨z, its, n, r, e⟩ := I.hok l _ hH
  exact ⟨z, its, n, r, r.length, e⟩

end

section
variable {X : Cx}

def rAppend : V → List V → Hp → VK → Prop := fun x vs H Q => ∃ l xs y, x = .ref l ∧ vs = [y] ∧ H l = some (.lst xs) ∧ xs.length < sizeLine ∧ Q .non (upd H l (.lst (xs ++ [y])))
theorem mt_append : MtM X "list.append" rAppend := by
  intro pins s σ H x vs v us Q I rx rv h
  obtain ⟨l, xs, y, rfl, rfl, hH, hz, q⟩ := h
  cases rx
  obtain ⟨u, rfl, ru⟩ := rv.one
  obtain ⟨z, its, n, r, hl, e⟩ := I.lstM hH
  refine call_meets F.slot_list_append ⟨_, e, rfl⟩ F.entry_list_append (F.args_list_append_2 _ _) (PySem.list_append l its.toArray n u (by rw [List.size_toArray]; omega)) ⟨e, ?_⟩
  refine ⟨.non, _, I.lset (its' := its ++ [u]) hH e (by simp) (r.append (.cons ru .nil)) ?_, rfl, q⟩
  rw [List.length_append, List.length_singleton]
  omega

def rCat : R2 := fun x y H Q => ∃ l b xs zs, x = .ref l ∧ y = .ref b ∧ H l = some (.lst xs) ∧ H b = some (.lst zs) ∧ xs.length + zs.length ≤ sizeLine ∧ ∀ p, H p = none → Q (.ref p) (upd H p (.lst (xs ++ zs)))
theorem op_cat : OpR X (binaryOp .Add) rCat := by
  intro pins s σ H x y v u Q I rx ry h
  obtain ⟨l, b, xs, zs, rfl, rfl, hH, hB, hz, q⟩ := h
  cases rx
  cases ry
  obtain ⟨z, its, n, r, hl, e⟩ := I.lstM hH
  obtain ⟨z2, its2, n2, r2, hl2, e2⟩ := I.lstM hB
  refine PySem.P.add_list e e2 ?_ (by rw [List.size_toArray, List.size_toArray]; omega)
  have ea : its.toArray ++ its2.toArray = (its ++ its2).toArray := by simp
  rw [ea]
  exact ⟨.ref _, _, I.lnew (t' := s.toks) (r.append r2) (by rw [List.length_append]; omega), rfl, q _ I.fresh⟩
end

section
variable {prog : Program} {w : World} {A : Around} {E : Value → Shared → Prop} {s : Shared}
end

section
variable {X : Cx}
end
end L2

namespace Att
open PySem PySem.W PySem.Calls PyProof.Rows

theorem ints_of_wellAll {P : Params} {h : Heap} : ∀ (ns : List Int) (vs : List Value), WellAll P h vs (ns.map WData.int) → IntsAre vs ns := by
  intro ns
  induction ns with
  | nil =>
    intro vs w
    rw [List.map_nil] at w
    cases w
    exact .nil
  | cons n ns ih =>
    intro vs w
    rw [List.map_cons] at w
    cases w with
    | cons a b =>
      cases a
      exact .cons _ _ (ih _ b)

theorem script_of {l : OpenLaw} {n : Nat} (hn : l.most = some n) {P : Params} {h : Heap} {args : List WData} {vals : List Value}
    (hpre : l.row.toRowW.claim.pre args = true) (hwl : WellAll P h vals args) :
    ∃ a vs ns, vals = [Value.ref a] ∧ args = [WData.list (ns.map WData.int)] ∧ h.get? a = some { cls := .type "list", data := .seq vs.toArray } ∧ IntsAre vs ns ∧ ns.length ≤ n := by
  have hsh : WShape.hasAll [] args [.list .int] = true := (pre_splitW hpre).1
  have hc : l.pre.holds [] { args := args } = true := (pre_splitW hpre).2
  obtain ⟨d, r, rfl, h1, h2⟩ := hasAllW_cons hsh
  obtain rfl := hasAllW_nil h2
  obtain ⟨xs, rfl, h3⟩ := hasW_list h1
  obtain ⟨ns, rfl⟩ := items_int h3
  have hlen : ns.length ≤ n := by
    unfold OpenLaw.pre at hc
    have h4 : (WTm.not (.lt (.lit (.int (n : Int))) (.len (.arg 0)))).holds [] { args := [.list (ns.map .int)] } = true := by
      have h4 := (holds_andW hc).1
      rw [hn] at h4
      exact h4
    have h5 := condW_of h4 (w_not (w_lt w_lit (w_len_list (w_arg rfl))))
    rw [List.length_map] at h5
    refine Nat.le_of_not_lt fun q => ?_
    have q' : (n : Int) < ((ns.length : Nat) : Int) := by omega
    first
      | (rw [decide_eq_true q'] at h5; exact absurd h5 (by decide))
      | (simp at h5; omega)
  cases hwl with
  | cons w1 w2 =>
    cases w2
    cases w1 with
    | list ho hall => exact ⟨_, _, ns, rfl, rfl, ho, ints_of_wellAll ns _ hall, hlen⟩

theorem post_true (l : OpenLaw) (args : List WData) : l.row.toRowW.claim.post args (.bool true) args = true :=
  postW_of (r := l.row.toRowW) (X := (true == true))
    (show WShape.has [] (.bool true) .bool = true by first | rfl | decide | simp [WShape.has, WShape.arms, WShape.armsAll])
    (show (WTm.eq .res (.lit (.bool true))).value [] { args := args, res := some (.bool true), after := args } = some (.bool (true == true)) from w_eq_bool (w_res rfl) w_lit) rfl

section
variable {prog : Program} {w : World} {A : Around} {E : Value → Shared → Prop} {s : Shared} {K : Frag}

end
end Att

namespace L2
open PySem PySem.Spec PyProof.Rows

theorem vals_ints : ∀ {vs : List Value} {ns : List Int}, IntsAre vs ns → Vals (ns.map V.int) vs
  | _, _, .nil => .nil
  | _, _, .cons n t h => .cons ⟨t, rfl⟩ (vals_ints h)

def Only (H : Hp) : Prop := ∀ b, H b = none ∨ ∃ o xs, H b = some (.frz o (.lst xs))

theorem law_call {P : Program} {w : World} {K : PySem.W.Frag} {mg mb : Str → Option Value} {CX : CXT} {k : Nat} {fa a : Addr} {fd : FuncData} {x : Str} {sp : Sp} {s₁ : Shared} {vs : List Value} {ns : List Int}
    (KX : K.In s₁.heap) (hns : s₁.heap.Ns mainGlobals mg) (hb : s₁.heap.Ns builtinsNs mb) (hbb : ∀ x : Str, x ≠ "__name__" → mb x = bootBuiltins x) (hlim : s₁.heap.NoLimit) (hg : s₁.gens = #[])
    (ha : s₁.heap.get? a = some { cls := .type "list", data := .seq vs.toArray }) (hi : IntsAre vs ns) (hl : ns.length ≤ sizeLine) (hr : Room k callerA)
    (F : ∀ base : Heap, K.In base → base.Ns mainGlobals mg → FnOk P w K mg base CX k fa fd [x] sp) (hbind : ∀ (s : Shared) (u : Value), BindsTo s fd ⟨[u], []⟩ [(x, u)])
    (hsp : ∀ H : Hp, Only H → SqL K H a (ns.map V.int) → sp [.ref a] H (fun v _ => v = .bl true) fun _ _ _ => False)
    (hCX : ∀ H e s', CX [] H s₁ (fun _ _ _ => False) e s' → False) :
    codeAny (model P w) callerA (.call (.ref fa) ⟨[.ref a], []⟩) (fun r s' => r = .ok (.ret (.bool true)) ∧ OldK s₁.heap s'.heap ∧ s'.os = s₁.os ∧ AllBare s'.gens) s₁ := by
  have rv := vals_ints hi
  have lenV := hi.length
  -- from an abstract heap in which nothing but the script may be tracked
  have core : ∀ H : Hp, Only H → SqL K H a (ns.map V.int) → HOk P w H s₁.heap → (∀ b, H b ≠ none → b = a) → (H a ≠ none → K.lookup a = none) →
      codeAny (model P w) callerA (.call (.ref fa) ⟨[.ref a], []⟩) (fun r s' => r = .ok (.ret (.bool true)) ∧ OldK s₁.heap s'.heap ∧ s'.os = s₁.os ∧ AllBare s'.gens) s₁ := by
    intro H hO hS hok hA hK
    have base_of : ∀ {b : Addr} {o : Obj}, s₁.heap.get? b = some o → H b = none → (hidT s₁.heap H).get? b = some o := fun e n => hidT_get e n
    have noA : ∀ {b : Addr} {o : Obj} {es : Array DictEntry} {ep : Nat}, s₁.heap.get? b = some o → o.data = .dict es ep → H b = none := fun {b o es ep} e d => by
      cases q : H b with
      | none => rfl
      | some u =>
        have e' : b = a := hA b (by rw [q]; simp)
        subst e'
        rw [ha] at e; cases e
        have d' : Data.seq vs.toArray _ = Data.dict es ep := d
        cases d'
    have nsK : ∀ {b : Addr} {m : Str → Option Value}, s₁.heap.Ns b m → (hidT s₁.heap H).Ns b m := fun {b m} ⟨o, es, ep, e, d, r⟩ => ⟨o, es, ep, base_of e (noA e d), d, r⟩
    have hKb : K.In (hidT s₁.heap H) := fun b o e => base_of (KX b o e) (by
      cases q : H b with
      | none => rfl
      | some u =>
        have e' : b = a := hA b (by rw [q]; simp)
        subst e'
        rw [hK (by rw [q]; simp)] at e; cases e)
    have hM : Mod K mg (hidT s₁.heap H) := ⟨hKb, nsK hns, ⟨mb, nsK hb, hbb⟩, let ⟨mc, h1, h2⟩ := hlim; ⟨mc, nsK h1, h2⟩⟩
    have e0 : Env0 P w K mg (hidT s₁.heap H) callerA [] s₁ H := ⟨rfl, hM, fun b o e => of_hidT e, Nat.le_of_eq (hidT_size _ _), trivial, fun b hb => absurd (show b ∈ ([] : List Addr) from hb) (by simp), hok, .of_eq hg⟩
    refine codeAny_mono ((F _ hKb (nsK hns)).run callerA [] s₁ H ⟨[.ref a], []⟩ [.ref a] [.ref a] _ _ hr e0 (hbind s₁ (.ref a)) (.cons rfl .nil) (hsp H hO hS)) fun r s' h => ?_
    cases r with
    | error e => exact (hCX H e s' h).elim
    | ok fl =>
      cases fl with
      | next => exact False.elim h
      | brk => exact False.elim h
      | cont => exact False.elim h
      | ret u =>
        obtain ⟨v, H', os, bare, un, hok', r', q⟩ := h
        have q' : v = .bl true := q
        subst q'
        obtain rfl : u = Value.bool true := r'
        refine ⟨rfl, OldK.of_keep fun b o e => ?_, os, bare⟩
        cases q : H b with
        | none => exact un.keep b o e q (by intro z; exact absurd (show b ∈ ([] : List Addr) from z) (by simp)) (by simp)
        | some u =>
          rcases hO b with z | ⟨ob, xs, z⟩
          · rw [q] at z; cases z
          · have z2 := un.frzs b ob _ z
            obtain ⟨e1, _⟩ := hok b _ z
            obtain ⟨e2, _⟩ := hok' b _ z2
            rw [e] at e1; cases e1
            exact e2
  cases hk : K.lookup a with
  | some o =>
    -- the script is one of the module's own objects
    have e := KX a o hk
    rw [ha] at e
    cases e
    refine core (fun _ => none) (fun _ => .inl rfl) (.inr ⟨_, vs.toArray, _, hk, rfl, rfl, rfl, by rw [List.size_toArray, lenV]; exact hl, by simpa using rv⟩) (fun b u z => by have z' : (none : Option HO) = some u := z; cases z') (fun b z => absurd rfl z) fun z => absurd rfl z
  | none =>
    refine core (fun b => if b = a then some (.frz { cls := .type "list", data := .seq vs.toArray } (.lst (ns.map V.int))) else none) (fun b => ?_) (.inl (.inr ⟨{ cls := .type "list", data := .seq vs.toArray }, if_pos rfl⟩)) (fun b u z => ?_) (fun b z => ?_) fun _ => hk
    · by_cases hb : b = a
      · exact .inr ⟨_, _, if_pos hb⟩
      · exact .inl (if_neg hb)
    · by_cases hb : b = a
      · have z' := (if_pos hb).symm.trans z
        cases z'
        subst hb
        exact ⟨ha, by rw [List.length_map]; exact hl, vs, _, rv, ha⟩
      · have z' := (if_neg hb).symm.trans z
        cases z'
    · by_cases hb : b = a
      · exact hb
      · exact absurd (if_neg hb) z
end L2

namespace L2
open PySem PySem.Spec PyProof.Rows

end L2

/- THE LAST THEOREM (shape; LID, My.* are yours):
   My.Adr: a structure of the addresses that your layer names (classes, functions); My.Txt K t: a structure (Prop) of the equations over K;
   My.txt_mk : {K} {implicit addresses ..} (e1 : nsIn K mainGlobals "law" = some (some (.ref f))) (e2 : K.lookup f = some ⟨oc, od, .func (fnOf "law" "law" params body scope dV kV doc pm an cdv ct), sl⟩) (e3 : codeIn K cdv "law" = true) .. : ∃ t, My.Txt K t

set_option maxRecDepth 100000 in
set_option maxHeartbeats 0 in
theorem PySem.Challenge.cw_LID_holds : PySem.Challenge.rw_LID.Holds := by
  w_on; o_law; k_head; (case hw => w_witness2)
  k_fill
  refine L2.walk_of (l := PySem.Challenge.rw_LID) (n := 63) (k := 40) (x := "script") (CX := fun w => ..) (sp := fun _ => My.sp_law) rfl (by decide) rfl ⟨rfl, by decide, by decide⟩ (fun w h Y => PySem.W.kIn_of Y) ?F ?S ?C
  case F =>
    intro w mg fa h KX G hmg
    have T : ∃ t, My.Txt (L2.KOf KX) t := by
      dsimp only [L2.KOf]                          -- K must stand as «<heap const> w.params» for k_is
      refine' My.txt_mk ?e1 ?e2 ?e3 ..
      (case e1 => PySem.W.k_is)                    -- in the order: a name -> its address -> its object -> its parts
      (case e2 => PySem.W.k_is)
      ..
    obtain ⟨t, T⟩ := T
    have e0 := hmg.symm.trans (PySem.W.mg_of KX G T.law)
    cases e0                                       -- fa is the law's own address
    exact ⟨_, fun s u => .of_eq rfl, fun base kb nb => My.law_fn T kb nb⟩     -- if «.of_eq rfl» comes too early: refine' ⟨_, ?b, fun base kb nb => My.law_fn T kb nb⟩; exact fun s u => .of_eq rfl
  case S => exact fun w H a ns hl hO hS => ..
  case C => exact ..
(the tactic k_is has no namespace: write k_is) -/

namespace L2
open PySem PySem.Spec PyProof.Rows

def inClass (s : Stmt) (j : Nat) : Stmt := match s with
  | .ClassDef _ _ _ body _ _ _ _ _ _ _ => body.getD j (.Pass ⟨0, 0, 0, 0⟩)
  | _ => .Pass ⟨0, 0, 0, 0⟩
def defArgs (s : Stmt) : Arguments := match s with
  | .FunctionDef _ a _ _ _ _ _ _ _ _ => a
  | _ => { posonlyargs := [], args := [], vararg := none, kwonlyargs := [], kw_defaults := [], kwarg := none, defaults := [] }
def defBody (s : Stmt) : List Stmt := match s with
  | .FunctionDef _ _ b _ _ _ _ _ _ _ => b
  | _ => []
def defScope (s : Stmt) : Scope := match s with
  | .FunctionDef _ _ _ _ _ _ sc _ _ _ => sc
  | _ => { kind := .function, names := [], isGenerator := false, isCoroutine := false }

abbrev CX0 : CXT := fun _ _ _ _ _ _ => False
abbrev E0 : XK := fun _ _ _ => False
theorem pass0 {X : Cx} : Passes CX0 X E0 := fun _ _ _ _ _ _ _ h => h.elim

structure Fun (K : PySem.W.Frag) (x qual : Str) (st : Stmt) (f : Addr) (fd : FuncData) : Prop where
  ex : ∃ (oc : Value) (od : Option Addr) (kV doc pm : Value) (an : Option Addr) (cdv ct : Value) (osl : Array (Option Value)),
    fd = PySem.W.fnOf x qual (defArgs st) (defBody st) (defScope st) .none kV doc pm an cdv ct ∧ K.lookup f = some ⟨oc, od, .func fd, osl⟩ ∧ PySem.W.codeIn K cdv qual = true
  kp : PySem.W.keepIn K (.ref f) = true
section
variable {P : Program} {w : World} {K : PySem.W.Frag} {mg : Str → Option Value} {base : Heap}
theorem Fun.ok {x qual : Str} {st : Stmt} {f : Addr} {fd : FuncData} {N ps : List Str} {k : Nat} {sp : Sp} (F : Fun K x qual st f fd) (S : FnScope N ps (defScope st)) (len : ∀ vs H Q E, sp vs H Q E → vs.length = ps.length)
    (hbody : ∀ (cdv : Value) (A : Around) (outer : List Env) (s : Shared) (H : Hp) (vs : List V) (Q : VK) (E : XK), Room k (A.deeper (envOfC qual (defScope st) s.heap.objs.size f cdv)) → sp vs H Q E →
      ∃ t, PSs (cxOf CX0 P w K mg base N qual (defScope st) f cdv A outer s H E).nox (defBody st) t ∧ t { nx := fun _ H' => Q .non H', rt := Q } (start N vs) H) : FnOk P w K mg base CX0 (k + 1) f fd ps sp := by
  obtain ⟨oc, od, kV, doc, pm, an, cdv, ct, osl, rfl, lk, hcd⟩ := F.ex
  refine fn_of lk hcd S len fun A outer s H vs Q E hr hsp => ?_
  obtain ⟨t, h, q⟩ := hbody cdv A outer s H vs Q E hr hsp
  exact ⟨t, h.nox, q⟩
theorem Fun.binds {x qual : Str} {st : Stmt} {f : Addr} {fd : FuncData} {ps : List Str} (F : Fun K x qual st f fd)
    (h : ∀ (kV doc pm : Value) (an : Option Addr) (cdv ct : Value) (us : List Value), us.length = ps.length → bindArgs (PySem.W.fnOf x qual (defArgs st) (defBody st) (defScope st) .none kV doc pm an cdv ct) ⟨us, []⟩ = pure (ps.zip us)) : Binds K fd ps [] := by
  obtain ⟨oc, od, kV, doc, pm, an, cdv, ct, osl, rfl, lk, hcd⟩ := F.ex
  exact .all (h kV doc pm an cdv ct)
theorem fun_mk {x qual : Str} {st : Stmt} {f : Addr} {oc : Value} {od an : Option Addr} {osl : Array (Option Value)} {kV doc pm cdv ct : Value} (l : K.lookup f = some ⟨oc, od, .func (PySem.W.fnOf x qual (defArgs st) (defBody st) (defScope st) .none kV doc pm an cdv ct), osl⟩)
    (c : PySem.W.codeIn K cdv qual = true) (k : PySem.W.keepIn K (.ref f) = true) : Fun K x qual st f (PySem.W.fnOf x qual (defArgs st) (defBody st) (defScope st) .none kV doc pm an cdv ct) := ⟨⟨oc, od, kV, doc, pm, an, cdv, ct, osl, rfl, l, c⟩, k⟩
end
theorem small1000 {n : Nat} (h : n ≤ 1000) : n < sizeLine := Nat.lt_of_le_of_lt h (by decide)

section
variable {X : Cx}
theorem pv (i : Nat) {x : Str} {pos : Pos} (hN : X.N[i]? = some x := by rfl) (hv : Vis X.env.scope x := by first | exact Or.inl rfl | exact Or.inr (Or.inl rfl) | exact Or.inr (Or.inr rfl)) (hd : (x == ("__debug__" : Str)) = false := by decide)
    (hcd : (x == ("__classdict__" : Str)) = false := by decide) : PE X (.Name x pos) (tVar i) := pe_var hN hv hd hcd
end

def Same (H H' : Hp) : Prop := ∀ b o, H b = some o → H' b = some o
theorem Same.refl (H : Hp) : Same H H := fun _ _ h => h
theorem Same.trans {H H1 H2 : Hp} (a : Same H H1) (b : Same H1 H2) : Same H H2 := fun c o h => b c o (a c o h)
theorem Same.free {H H' : Hp} (e : Same H H') {l : Addr} (h : H' l = Option.none) : H l = Option.none := by
  cases q : H l with
  | none => rfl
  | some o =>
    rw [e l o q] at h
    cases h
theorem Same.seq {K : PySem.W.Frag} {H H' : Hp} {a : Addr} {xs : List V} (e : Same H H') (h : SqL K H a xs) : SqL K H' a xs := by
  rcases h with (h | ⟨o, h⟩) | h
  · exact .inl (.inl (e _ _ h))
  · exact .inl (.inr ⟨o, e _ _ h⟩)
  · exact .inr h

end L2
namespace L2
open PySem PySem.Spec PyProof.Rows
section
variable {κ : Type} [DecidableEq κ]
def valV (kvs : List (κ × V)) (k : κ) : Option V := (kvs.find? fun kv => decide (kv.1 = k)).map (·.2)
def dropK (kvs : List (κ × V)) (k : κ) : List (κ × V) := kvs.filter fun kv => decide (kv.1 ≠ k)

theorem valV_pos {p : κ × V} {r : List (κ × V)} {k : κ} (e : p.1 = k) : valV (p :: r) k = some p.2 := by simp [valV, List.find?_cons, e]
theorem valV_neg {p : κ × V} {r : List (κ × V)} {k : κ} (e : ¬ p.1 = k) : valV (p :: r) k = valV r k := by simp [valV, List.find?_cons, e]
theorem RelO.getD {o : Option V} {u : Option Value} {d : V} {d' : Value} (r : RelO o u) (rd : RelV d d') : RelV (o.getD d) (u.getD d') := by
  cases o with
  | none => cases u with
    | none => exact rd
    | some _ => exact (show False from r).elim
  | some _ => cases u with
    | none => exact (show False from r).elim
    | some _ => exact r

theorem KV.val {kvs : List (κ × V)} {vs : List (κ × Value)} (r : KV kvs vs) (k : κ) : RelO (valV kvs k) (valueAt vs k) := by
  unfold KV at r
  induction r with
  | nil => exact True.intro
  | @cons p q ps qs h t ih =>
    obtain ⟨h1, h2⟩ := h
    by_cases e : p.1 = k
    · have e' : q.1 = k := h1.symm.trans e
      have b : valueAt (q :: qs) k = some q.2 := by simp [valueAt, List.find?_cons, e']
      rw [valV_pos e, b]; exact h2
    · have e' : ¬ q.1 = k := fun z => e (h1.trans z)
      have b : valueAt (q :: qs) k = valueAt qs k := by simp [valueAt, List.find?_cons, e']
      rw [valV_neg e, b]; exact ih
theorem KV.any {kvs : List (κ × V)} {vs : List (κ × Value)} (r : KV kvs vs) (k : κ) : (kvs.any fun kv => decide (kv.1 = k)) = vs.any fun kv => decide (kv.1 = k) := by
  unfold KV at r
  induction r with
  | nil => rfl
  | cons h t ih => rw [List.any_cons, List.any_cons, ih, h.1]
theorem KV.drop {kvs : List (κ × V)} {vs : List (κ × Value)} (r : KV kvs vs) (k : κ) : KV (dropK kvs k) (without vs k) := by
  unfold KV at r ⊢
  unfold dropK without
  induction r with
  | nil => exact .nil
  | @cons p q ps qs h t ih =>
    obtain ⟨h1, h2⟩ := h
    rw [List.filter_cons, List.filter_cons]
    by_cases e : p.1 = k
    · have a : ¬ decide (p.1 ≠ k) = true := by simp [e]
      have b : ¬ decide (q.1 ≠ k) = true := by simp [h1.symm.trans e]
      rw [if_neg a, if_neg b]; exact ih
    · have e' : ¬ q.1 = k := fun z => e (h1.trans z)
      have a : decide (p.1 ≠ k) = true := by simp [e]
      have b : decide (q.1 ≠ k) = true := by simp [e']
      rw [if_pos a, if_pos b]; exact .cons ⟨h1, h2⟩ ih
theorem KV.length {kvs : List (κ × V)} {vs : List (κ × Value)} (r : KV kvs vs) : kvs.length = vs.length := Paired.length r
end


section
variable {P : Program} {w : World} {H : Hp} {h : Heap} {a : Addr}
end

section
variable {X : Cx} {pins : List (Addr × Obj)} {σ : St} {H : Hp} {s : Shared} {a : Addr} {y v : V} {u r : Value} {o : Option V} {A : Around} {E : Value → Shared → Prop}

end

section
variable {X : Cx} {pins : List (Addr × Obj)} {σ : St} {H : Hp} {s : Shared} {a : Addr} {kvs : List (Key × V)} {k : Key} {u : Value} {A : Around} {E : Value → Shared → Prop}
end


section
variable {X : Cx} {o i e value : Expr} {pos pos' tpos : Pos} {td ty tv : TE}
end


section
variable {X : Cx} {pos : Pos}
end

section
variable {X : Cx} {pins : List (Addr × Obj)} {σ : St} {H : Hp} {s : Shared} {a : Addr} {y d : V} {u r : Value} {o : Option V} {A : Around} {E : Value → Shared → Prop}
end

section
variable {X : Cx} {o e f : Expr} {apos cpos : Pos} {td ty tx : TE}
end

section
variable {X : Cx} {pins : List (Addr × Obj)} {σ : St} {H : Hp} {s : Shared} {a : Addr} {kvs : List (Key × V)} {A : Around} {E : Value → Shared → Prop}
end


section
variable {X : Cx} {pins : List (Addr × Obj)} {σ : St} {H : Hp} {s : Shared} {a : Addr} {y : V} {u : Value} {A : Around} {E : Value → Shared → Prop}
end
end L2
namespace L2
open PySem PySem.Spec PyProof.Rows

theorem compLoop_any {prog : Program} {w : World} {A : Around} {R : Result → Shared → Prop} {s : Shared} {elt target iter : Expr} {ifs : List Expr} {scope : Scope} {pos : Pos} {it acc : Value} {env : Env} (J : Nat → Shared → Prop)
    (turn : ∀ n s, J n s → wpAny (model prog w) A (pyNext it) (fun r s₁ => match r with
      | none => R (.ok .next) s₁
      | some v => wpAny (model prog w) A (letOwnedTupleGo target it v) (fun _ s₁' => wpAny (model prog w) A (assign target env v) (fun _ s₂ =>
          wpAny (model prog w) A (forIn ifs true fun c r => if r = true then do let ok ← isTrue c env (eval c env); pure (ForInStep.yield ok) else pure (ForInStep.yield r)) (fun ok s₃ =>
            if ok = true then wpAny (model prog w) A (eval elt env) (fun x s₄ =>
              wpAny (model prog w) A (call (.builtin "list.append") [acc, x]) (fun _ s₅ => ∃ m, m < n ∧ J m s₅) (fun _ _ => False) s₄) (fun _ _ => False) s₃
            else ∃ m, m < n ∧ J m s₃) (fun _ _ => False) s₂) (fun _ _ => False) s₁') (fun _ _ => False) s₁) (fun _ _ => False) s)
    (n : Nat) (h : J n s) : codeAny (model prog w) A (.compLoop (.ListComp elt [⟨target, iter, ifs, 0⟩] scope pos) 0 it acc env) R s := by
  refine codeAny_loop rfl J (fun n s hI => ?_) n h
  show wpAny _ A ((compTurn (.ListComp elt [⟨target, iter, ifs, 0⟩] scope pos) 0 it acc env).onRaise (fun x => do noteFrame x env; theTreesLotGoes x)) _ _ s
  refine wpAny_noted ?_
  rw [compTurn_list]
  refine wpAny_bind (wpAny_standAt (wpAny_bind (wpAny_mono (turn n s hI) (fun r s₁ h₁ => ?_) fun _ _ h' => h'.elim)))
  cases r with
  | none => exact wpAny_pure h₁
  | some v =>
    refine wpAny_bind (wpAny_mono h₁ (fun _ s₁' h₁' => ?_) fun _ _ h' => h'.elim)
    refine wpAny_bind (wpAny_mono h₁' (fun _ s₂ h₂ => wpAny_bind (wpAny_mono h₂ (fun ok s₃ h₃ => ?_) fun _ _ h' => h'.elim)) fun _ _ h' => h'.elim)
    cases ok with
    | false => exact wpAny_pure ⟨rfl, h₃⟩
    | true => exact wpAny_bind (wpAny_bind (wpAny_mono h₃ (fun x s₄ h₄ => wpAny_bind (wpAny_mono h₄ (fun _ s₅ h₅ => wpAny_pure (wpAny_pure ⟨rfl, h₅⟩)) fun _ _ h' => h'.elim)) fun _ _ h' => h'.elim))

def cxComp (X : Cx) (N : List Str) (scope : Scope) (cl : List (Str × Addr)) (s : Shared) (H : Hp) (fp : List Addr) : Cx :=
  { X with N := N, s₀ := s, H₀ := H, env := compEnvC scope cl s.heap.objs.size X.env, outer := X.stack, ex := fp, fn := fun _ => false, pn := [], xe := fun _ _ => False }

structure CompSc (X : Cx) (own capt : List Str) (scope : Scope) (cl : List (Str × Addr)) (fr : List Nat) : Prop where
  clos : closureFor scope X.env = pure cl
  nocell : ∀ y ∈ scope.names, y.2 ≠ .cell
  kind : scope.kind = .function
  names : ∀ y ∈ scope.names, y.2 = .local → scope.names.lookup y.1 = some .local
  inn : ∀ y c, cl.lookup y = some c → X.env.cells.lookup y = some c
  has : ∀ y, ((relabel scope X.env).names.lookup y = some .cell ∨ (relabel scope X.env).names.lookup y = some .free) → ∃ c, cl.lookup y = some c
  cap : ∀ (k : Nat) (y : Str), capt[k]? = some y → ∃ j c, fr[k]? = some j ∧ X.N[j]? = some y ∧ X.env.scope.names.lookup y = some .cell ∧ cl.lookup y = some c ∧
    ((relabel scope X.env).names.lookup y = some .cell ∨ (relabel scope X.env).names.lookup y = some .free)
  len : capt.length = fr.length
theorem CompSc.none {X : Cx} {own : List Str} {scope : Scope} (h1 : ∀ y ∈ scope.names, y.2 ≠ .free) (h2 : ∀ y ∈ scope.names, y.2 ≠ .cell) (kind : scope.kind = .function) (names : ∀ y ∈ scope.names, y.2 = .local → scope.names.lookup y.1 = some .local) :
    CompSc X own [] scope [] [] where
  clos := closureFor_none h1
  nocell := h2
  kind := kind
  names := names
  inn := fun y c e => nomatch e
  has := fun y e => by
    have mem : ∀ (l : List (Str × NameKind)) (y : Str) (k : NameKind), l.lookup y = some k → ∃ z ∈ l, z.2 = k := by
      intro l
      induction l with
      | nil => intro y k e; cases e
      | cons a r ih =>
        intro y k e
        obtain ⟨n, q⟩ := a
        rw [List.lookup_cons] at e
        cases hy : y == n with
        | true => rw [hy] at e; exact ⟨(n, q), by simp, Option.some.inj e⟩
        | false =>
          rw [hy] at e
          obtain ⟨z, hz, e2⟩ := ih y k e
          exact ⟨z, by simp [hz], e2⟩
    exfalso
    have same : (relabel scope X.env).names = scope.names := by
      unfold relabel
      exact map_eq_self (l := scope.names) fun x hx => by
        obtain ⟨n, k⟩ := x
        have : (k == NameKind.free) = false := by simpa using h1 _ hx
        simp [this]
    rw [same] at e
    rcases e with e | e
    · obtain ⟨z, hz, e2⟩ := mem _ _ _ e; exact h2 z hz e2
    · obtain ⟨z, hz, e2⟩ := mem _ _ _ e; exact h1 z hz e2
  cap := fun k y e => by simp at e
  len := rfl

def st0 (own : List Str) (fr : List Nat) (σ : St) : St := own.map (fun _ => Option.none) ++ fr.map fun j => (σ[j]?).join

theorem cxComp_ok {X : Cx} {pins : List (Addr × Obj)} {σ : St} {H : Hp} {s : Shared} {own capt : List Str} {scope : Scope} {cl : List (Str × Addr)} {fr : List Nat} {fp : List Addr} (C : CompSc X own capt scope cl fr)
    (I : Inv X pins σ H s) (hf : ∀ b ∈ fp, FpOk X pins H b ∧ b < s.heap.objs.size) : (cxComp X (own ++ capt) scope cl s H fp).Ok where
  mod := I.ok.mod
  kind := C.kind
  glob := I.ok.glob
  blt := I.ok.blt
  above := Nat.le_refl _
  inj := fun x y c e1 e2 => I.ok.inj x y c (C.inn x c e1) (C.inn y c e2)
  has := fun x e => C.has x e
  cab := fun x c e _ => by cases e
  hd := I.ok.hd
  frames := I.ok.frames
  stk := .inl rfl
  exf := fun b hb => ⟨Nat.ne_of_lt (hf b hb).2, fun x c e => (hf b hb).1.2.2.2.2.1 x c (C.inn x c e)⟩
  bs := I.bs
  bsz := Nat.le_trans I.ok.bsz I.sz
  noex := fun b o e hb => by
    rcases (hf b hb).1.2.2.2.1 with z | z
    · exact I.ok.noex b o e z
    · exact absurd (Nat.lt_of_lt_of_le (Heap.lt_size e) (Nat.le_trans I.ok.bsz z)) (Nat.lt_irrefl _)
  exfs := fun b hb z => by
    rcases List.mem_cons.mp (I.stkSub b z) with e | z
    · exact (hf b hb).1.2.1 e
    · exact (hf b hb).1.2.2.1 z
  funs := I.stack
  frf := I.stkFree

theorem cxComp_start {X : Cx} {pins : List (Addr × Obj)} {σ : St} {H : Hp} {s : Shared} {own capt : List Str} {scope : Scope} {cl : List (Str × Addr)} {fr : List Nat} {fp : List Addr} {h' : Heap} {t' : Nat} {m' : Str → Option Value} (C : CompSc X own capt scope cl fr)
    (I : Inv X pins σ H s) (hf : ∀ b ∈ fp, FpOk X pins H b ∧ b < s.heap.objs.size) (hn : h'.Ns s.heap.objs.size m') (k : ∀ b o, s.heap.get? b = some o → h'.get? b = some o) :
    Inv (cxComp X (own ++ capt) scope cl s H fp) [] (st0 own fr σ) H { s with heap := h', toks := t' } where
  ok := cxComp_ok C I hf
  os := rfl
  bare := I.bare
  base := Un.kept k
  loc := by
    obtain ⟨m, _, hl⟩ := I.loc
    refine ⟨m', hn, fun i y v e1 e2 _ => ?_⟩
    have e1' : (own ++ capt)[i]? = some y := e1
    unfold st0 at e2
    by_cases hi : i < own.length
    · rw [List.getElem?_append_left (by simpa using hi)] at e2
      rw [List.getElem?_map] at e2
      cases q : own[i]? with
      | none => rw [q] at e2; cases e2
      | some _ => rw [q] at e2; cases e2
    · rw [List.getElem?_append_right (by simpa using hi)] at e2
      rw [List.getElem?_append_right (by simpa using hi)] at e1'
      simp only [List.length_map] at e2
      obtain ⟨j, c, f1, f2, f3, f4, f5⟩ := C.cap _ y e1'
      rw [List.getElem?_map, f1] at e2
      have e3 : (σ[j]?).join = some v := Option.some.inj e2
      have e4 : σ[j]? = some (some v) := by
        cases q : σ[j]? with
        | none => rw [q] at e3; cases e3
        | some z => rw [q] at e3; exact congrArg some e3
      obtain ⟨u, r, l⟩ := hl j y v f2 e4 (.inr (.inl f3))
      refine ⟨u, r, .inr ⟨f5, c, f4, ?_⟩⟩
      rcases l with ⟨k1, _⟩ | ⟨_, c', h1, h2⟩
      · have k1' : X.env.scope.names.lookup y = some .local := k1
        rw [f3] at k1'; cases k1'
      · rw [C.inn y c f4] at h1
        cases h1
        obtain ⟨o, ho, hd⟩ := h2
        exact ⟨o, k _ _ ho, hd⟩
  cell := fun y c e => by
    obtain ⟨v, o, ho, hd⟩ := I.cell y c (C.inn y c e)
    exact ⟨v, o, k _ _ ho, hd⟩
  free := I.hok.fresh (Nat.le_refl _)
  freeC := fun y c e => I.freeC y c (C.inn y c e)
  pin := fun p hp => by
    have : p ∈ ([] : List (Addr × Obj)) := hp
    cases this
  hok := I.hok.kept k
  len := by
    show (st0 own fr σ).length = (own ++ capt).length
    unfold st0
    simp [C.len]

theorem cxComp_end {X : Cx} {pins : List (Addr × Obj)} {σ σ' : St} {H H' : Hp} {s s' : Shared} {N : List Str} {scope : Scope} {cl : List (Str × Addr)} {fp : List Addr} {pins' : List (Addr × Obj)} {h' : Heap}
    (I : Inv X pins σ H s) (hf : ∀ b ∈ fp, FpOk X pins H b ∧ b < s.heap.objs.size) (J : Inv (cxComp X N scope cl s H fp) pins' σ' H' s') (hs : Heap.SameBut s.heap.objs.size s'.heap h') :
    Inv X pins σ H' { s' with heap := h' } := by
  have fr : H' s.heap.objs.size = none := J.free
  have ne : ∀ {b : Addr} {o : Obj}, s.heap.get? b = some o → b ≠ s.heap.objs.size := fun e => Nat.ne_of_lt (Heap.lt_size e)
  have B : Un (frs X.stack) fp H H' s.heap s'.heap := J.base
  refine I.call' (s' := { s' with heap := h' }) (ch := fp) J.os ?_ ?_ J.bare fun b hb => ⟨(hf b hb).1.2.2.2.1, (hf b hb).1.2.1, (hf b hb).1.2.2.2.2.1, (hf b hb).1.2.2.2.2.2⟩
  · exact ⟨fun b o e n h1 h2 => (hs.2 b (ne e)).trans (B.keep b o e n h1 h2), fun b o e n h1 h2 => let ⟨sl, q⟩ := B.slot b o e n h1 h2; ⟨sl, (hs.2 b (ne e)).trans q⟩, B.free,
      fun b o e h1 => let ⟨o', q⟩ := B.there b o e h1; ⟨o', (hs.2 b (ne e)).trans q⟩, B.tups, B.frzs, B.tbls⟩
  · intro b ob e
    refine (J.hok b ob e).stay (fun c w' hc q => (hs.2 c ?_).trans q) (fun _ q => q) fun _ _ q => q
    rintro rfl
    rcases hc with rfl | hc
    · rw [fr] at e; cases e
    · rw [fr] at hc; cases hc

def PTs (X : Cx) (ifs : List Expr) (t : TT) : Prop :=
  ∀ (pins : List (Addr × Obj)) (s : Shared) (σ : St) (H : Hp) (Q : Bool → Hp → Prop), Inv X pins σ H s → t σ H Q →
    wpAny (model X.prog X.w) X.A (forIn ifs true fun c r => if r = true then do let ok ← isTrue c X.env (eval c X.env); pure (ForInStep.yield ok) else pure (ForInStep.yield r)) (TP X pins σ Q) X.xe s
def tTrue : TT := fun _ H Q => Q true H
theorem pts_nil {X : Cx} : PTs X [] tTrue := fun _ _ _ H _ I h => wpAny_tests_nil ⟨H, I, h⟩
def tComp (wi : TI) (g : TG) (tt : TT) (te : TE) (own : List Str) (fr : List Nat) : TE := fun σ H Q => wi σ H fun J H1 => ∀ D, H1 D = none → ∃ W : Nat → Nat → St → Hp → Prop, (∃ m, W 0 m (st0 own fr σ) (upd H1 D (.lst []))) ∧ ∀ i m σc H, W i m σc H →
  (J.stop i H ∧ Q (.ref D) H) ∨ (J.go i H ∧ ∃ N : St → Hp → Prop, (∀ σ' H', N σ' H' → ∃ m', m' < m ∧ W (i + 1) m' σ' H') ∧ ∀ x H', J.yld i H x H' → g x σc H' fun σ2 H2 => tt σ2 H2 fun b H3 =>
    if b = true then te σ2 H3 fun y H4 => ∃ ys, H4 D = some (.lst ys) ∧ ys.length < sizeLine ∧ N σ2 (upd H4 D (.lst (ys ++ [y]))) else N σ2 H3)

theorem comp_core {X : Cx} {own capt : List Str} {scope : Scope} {cl : List (Str × Addr)} {fr : List Nat} {tg iter elt : Expr} {ifs : List Expr} {wi : TI} {g : TG} {tt : TT} {te : TE} {pos : Pos} (C : CompSc X own capt scope cl fr) (hc : X.calm = true)
    (hi : PI X tg iter wi) (hg : ∀ s H fp, PG (cxComp X (own ++ capt) scope cl s H fp) tg g) (ht : ∀ s H fp, PTs (cxComp X (own ++ capt) scope cl s H fp) ifs tt) (he : ∀ s H fp, PE (cxComp X (own ++ capt) scope cl s H fp) elt te)
    {pins : List (Addr × Obj)} {s : Shared} {σ : St} {H : Hp} {Q : VK} {RR : Value → Addr → Result → Shared → Prop} (I : Inv X pins σ H s) (h : tComp wi g tt te own fr σ H Q)
    (hR : ∀ (D C : Addr) (H' : Hp) (s' : Shared) (m : Str → Option Value), s'.heap.Ns C m → FpOk X pins H' C → (∀ h', Heap.SameBut C s'.heap h' → Inv X pins σ H' { s' with heap := h' }) → Q (.ref D) H' → RR (.ref D) C (.ok .next) s') :
    wpAny (model X.prog X.w) X.A (eval iter X.env) (fun x s₁ => wpAny (model X.prog X.w) X.A (pyIter x) (fun it s₂ => wpAny (model X.prog X.w) X.A (newList []) (fun acc s₃ =>
      wpAny (model X.prog X.w) X.A (newFunctionEnv scope X.env.globals cl [] X.env.qual none .none (some X.env)) (fun cenv s₄ =>
        codeAny (model X.prog X.w) X.A (.compStart (.ListComp elt [⟨tg, iter, ifs, 0⟩] scope pos) 0 it acc { cenv with scope := relabel scope X.env }) (RR acc cenv.locals) s₄) X.xe s₃) X.xe s₂) X.xe s₁) X.xe s := by
  refine thn (hi pins s σ H _ I h) fun v s1 h1 => thn h1 fun itv s2 h2 => ?_
  obtain ⟨it, fp, tn, J, H2, e, I2, T, st2, f2, h2⟩ := h2
  subst e
  obtain ⟨W, ⟨m0, w0⟩, turn⟩ := h2 s2.heap.objs.size I2.fresh
  refine wpAny_newObj_type ?_
  have I3 : Inv X pins σ (upd H2 s2.heap.objs.size (.lst [])) { s2 with heap := s2.heap.push { cls := .type "list", data := .seq ([] : List Value).toArray } } := I2.lnew (ys := []) (its := []) (t' := s2.toks) .nil (Nat.zero_le _)
  generalize hs3 : ({ s2 with heap := s2.heap.push { cls := .type "list", data := .seq ([] : List Value).toArray } } : Shared) = s3 at I3 ⊢
  have keep3 : ∀ b o, s2.heap.get? b = some o → s3.heap.get? b = some o := fun b o e => by rw [← hs3]; exact Heap.get?_push_of_some _ e
  have sz3 : s2.heap.objs.size < s3.heap.objs.size := by rw [← hs3]; show _ < (s2.heap.push _).objs.size; rw [Heap.size_push]; exact Nat.lt_succ_self _
  have fin : ∀ b ∈ fp, b < s2.heap.objs.size := fun b hb => by obtain ⟨o, e, _⟩ := T.obj _ _ st2 b hb; exact Heap.lt_size e
  have f3 : ∀ b ∈ fp, FpOk X pins (upd H2 s2.heap.objs.size (.lst [])) b ∧ b < s3.heap.objs.size := fun b hb => by
    obtain ⟨a1, a2⟩ := f2 b hb
    exact ⟨⟨by rw [upd_ne (Nat.ne_of_lt (fin b hb))]; exact a1, a2⟩, Nat.lt_trans (fin b hb) sz3⟩
  refine wpAny_newFunctionEnv C.nocell (by intro y hy; simp at hy) (fun h4 hn4 hs4 => ?_) C.kind
  have keep4 : ∀ b o, s3.heap.get? b = some o → h4.get? b = some o := fun b o e => (hs4.2 b (Nat.ne_of_lt (Heap.lt_size e))).trans (Heap.get?_push_of_some _ e)
  have I4 : Inv (cxComp X (own ++ capt) scope cl s3 (upd H2 s2.heap.objs.size (.lst [])) fp) [] (st0 own fr σ) (upd H2 s2.heap.objs.size (.lst [])) { s3 with heap := h4, toks := s3.toks + ([] : List (Str × Value)).length } := cxComp_start C I3 f3 hn4 keep4
  have st4 : tn 0 h4 := T.keep _ _ _ st2 fun b _ o e => keep4 b o (keep3 b o e)
  generalize hs5 : ({ s3 with heap := h4, toks := s3.toks + ([] : List (Str × Value)).length } : Shared) = s5 at I4 ⊢
  have st5 : tn 0 s5.heap := by rw [← hs5]; exact st4
  generalize hX : cxComp X (own ++ capt) scope cl s3 (upd H2 s2.heap.objs.size (.lst [])) fp = Y at I4
  have hY1 : Y.prog = X.prog := by rw [← hX]; rfl
  have hY2 : Y.w = X.w := by rw [← hX]; rfl
  have hY3 : Y.K = X.K := by rw [← hX]; rfl
  have hY4 : Y.A = X.A := by rw [← hX]; rfl
  have hY5 : Y.calm = true := by rw [← hX]; exact hc
  have hY6 : Y.env = compEnvC scope cl s3.heap.objs.size X.env := by rw [← hX]; rfl
  have hY7 : Y.xe = fun _ _ => False := by rw [← hX]; rfl
  have gY : PG Y tg g := by rw [← hX]; exact hg _ _ _
  have tY : PTs Y ifs tt := by rw [← hX]; exact ht _ _ _
  have eY : PE Y elt te := by rw [← hX]; exact he _ _ _
  have fY : ∀ {H' : Hp}, (∀ b ∈ fp, H' b = none) → ∀ b ∈ fp, FpOk Y [] H' b := fun {H'} hn b hb => by
    have ok := I4.ok
    refine ⟨hn b hb, (ok.exf b (by rw [← hX]; exact hb)).1, ok.exfs b (by rw [← hX]; exact hb), .inl (by rw [← hX]; exact hb), fun x c e => (ok.exf b (by rw [← hX]; exact hb)).2 x c e, fun p hp => ?_⟩
    have : p ∈ ([] : List (Addr × Obj)) := by rw [← hX] at hp; exact hp
    cases this
  have loop : ∀ s6, s6 = s5 → codeAny (model X.prog X.w) X.A (.compLoop (.ListComp elt [⟨tg, iter, ifs, 0⟩] scope pos) 0 (.ref it) (.ref s2.heap.objs.size) (compEnvC scope cl s3.heap.objs.size X.env)) (RR (.ref s2.heap.objs.size) s3.heap.objs.size) s6 := by
    rintro s6 rfl
    refine compLoop_any (fun n s' => ∃ i σ' H', Inv Y [] σ' H' s' ∧ tn i s'.heap ∧ (∀ b ∈ fp, H' b = none) ∧ W i n σ' H') ?_ m0 ⟨0, _, _, I4, st5, fun b hb => (f3 b hb).1.1, w0⟩
    rintro n s7 ⟨i, σ7, H7, I7, st7, fr7, w7⟩
    have pn := hY1; have pw := hY2
    rcases turn i n σ7 H7 w7 with ⟨stop, qn⟩ | ⟨go, N, hN, step⟩
    · have z := T.done Y hY1 hY2 hY3 hY5 i [] s7 σ7 H7 (fun _ _ => False) I7 (fY fr7) st7 stop
      rw [hY4] at z
      refine thn z fun r s8 ⟨hr, I8⟩ => ?_
      subst hr
      obtain ⟨m8, hn8, _⟩ := I8.loc
      rw [hY6] at hn8
      have fC : H7 s3.heap.objs.size = none := by have z := I8.free; rw [hY6] at z; exact z
      refine hR _ _ H7 s8 m8 hn8 (I3.fpOk (Nat.le_refl _) fC) (fun h' sb => ?_) qn
      rw [← hX] at I8
      exact cxComp_end I3 f3 I8 sb
    · have z := T.item Y hY1 hY2 hY3 hY5 i [] s7 σ7 H7 (fun _ _ => False) I7 (fY fr7) st7 go
      rw [hY4] at z
      refine thn z fun r s8 ⟨u, hr, h8⟩ => ?_
      subst hr
      refine thn h8 fun _ s9 ⟨x, H9, I9, r9, y9, st9, fr9⟩ => ?_
      have I9' := I9.pinned (fY fr9) (T.obj _ _ st9)
      have z2 := gY _ s9 σ7 H9 x u _ I9' r9 (step x H9 y9)
      rw [hY1, hY2, hY4, hY6, hY7] at z2
      refine thn z2 fun _ sA ⟨σA, HA, IA, qA⟩ => ?_
      have z3 := tY _ sA σA HA _ IA qA
      rw [hY1, hY2, hY4, hY6, hY7] at z3
      refine thn z3 fun b sB ⟨HB, IB, qB⟩ => ?_
      have again : ∀ {σZ : St} {HZ : Hp} {sZ : Shared}, Inv Y ([] ++ pinsAt fp s9.heap) σZ HZ sZ → N σZ HZ → ∃ m, m < n ∧ ∃ i σ' H', Inv Y [] σ' H' sZ ∧ tn i sZ.heap ∧ (∀ b ∈ fp, H' b = none) ∧ W i m σ' H' := fun {σZ HZ sZ} IZ nZ => by
        obtain ⟨m', hm, wZ⟩ := hN σZ HZ nZ
        refine ⟨m', hm, i + 1, σZ, HZ, IZ.unpinned, T.keep _ _ _ st9 fun b hb o e => (IZ.pin (b, o) (List.mem_append_right _ (List.mem_append_right _ (mem_pinsAt hb e)))).1, fun b hb => ?_, wZ⟩
        obtain ⟨o, e, d⟩ := T.obj _ _ st9 b hb
        exact (IZ.pin (b, o) (List.mem_append_right _ (List.mem_append_right _ (mem_pinsAt hb e)))).2.1
      cases b with
      | false => exact again IB qB
      | true =>
        have z4 := eY _ sB σA HB _ IB qB
        rw [hY1, hY2, hY4, hY6, hY7] at z4
        refine thn z4 fun y sC ⟨vy, HC, IC, rC, ys, hD, hz, nC⟩ => ?_
        have z5 := mt_append (X := Y) _ sC σA HC (.ref s2.heap.objs.size) [vy] (.ref s2.heap.objs.size) [y] (fun _ H' => N σA H') IC rfl (.cons rC .nil) ⟨_, ys, vy, rfl, rfl, hD, hz, nC⟩
        rw [hY1, hY2, hY4, hY7] at z5
        exact thn z5 fun _ sD ⟨_, HD, ID, _, nD⟩ => again ID nD
  exact codeAny_compStart_list (loop _ rfl) (T.self _ 0 _ _ _ st5 (loop _ rfl))

theorem pe_comp {X : Cx} {own capt : List Str} {scope : Scope} {cl : List (Str × Addr)} {fr : List Nat} {tg iter elt : Expr} {ifs : List Expr} {wi : TI} {g : TG} {tt : TT} {te : TE} {pos : Pos} (C : CompSc X own capt scope cl fr) (hc : X.calm = true)
    (hi : PI X tg iter wi) (hg : ∀ s H fp, PG (cxComp X (own ++ capt) scope cl s H fp) tg g) (ht : ∀ s H fp, PTs (cxComp X (own ++ capt) scope cl s H fp) ifs tt) (he : ∀ s H fp, PE (cxComp X (own ++ capt) scope cl s H fp) elt te)
    (hs : ∀ x, foldedSetIterable iter X.env x = pure x := by intro _; rfl) : PE X (.ListComp elt [⟨tg, iter, ifs, 0⟩] scope pos) (tComp wi g tt te own fr) := by
  intro pins s σ H Q I h
  rw [eval_ListComp]
  refine wpAny_comprehension_free (use := none) rfl hs C.clos C.kind C.names ?_
  exact comp_core (RR := fun acc C => compPost (model X.prog X.w) X.A X.xe none (EP X pins σ Q) acc C) C hc hi hg ht he I h fun D C H' s' m hn _ hI q => ⟨m, hn, fun h' sb => ⟨.ref D, H', hI h' sb, rfl, q⟩⟩

end L2
namespace L2
open PySem PySem.Spec PyProof.Rows
def Has (P : Program) (w : World) (K : PySem.W.Frag) (mg : Str → Option Value) (base : Heap) (k : Nat) (x : Str) (ps : List Str) (sp : Sp) : Prop :=
  ∃ f fd, FnOk P w K mg base CX0 k f fd ps sp ∧ (∀ us : List Value, us.length = ps.length → bindArgs fd ⟨us, []⟩ = pure (ps.zip us)) ∧ PySem.W.keepIn K (.ref f) = true ∧ mg x = some (.ref f) ∧ ∃ oc od osl, K.lookup f = some ⟨oc, od, .func fd, osl⟩
theorem Has.mono {P : Program} {w : World} {K : PySem.W.Frag} {mg : Str → Option Value} {base : Heap} {j k : Nat} {x : Str} {ps : List Str} {sp : Sp} (h : Has P w K mg base j x ps sp) (hk : j ≤ k) : Has P w K mg base k x ps sp :=
  let ⟨f, fd, F, b⟩ := h
  ⟨f, fd, F.mono hk, b⟩
theorem pe_def {X : Cx} {k : Nat} {x : Str} {ps : List Str} {sp : Sp} {p pos : Pos} {e : Expr} {es : List Expr} {t : TA} (h : Has X.prog X.w X.K X.mg X.base k x ps sp) (hr : Room k X.A) (ha : PA X (e :: es) t) (hg : Gl X x := by rfl)
    (hdb : (x == ("__debug__" : Str)) = false := by decide) (he : starEach (e :: es) X.env = (false, eval e X.env) :: starEach es X.env := by rfl) (hpl : (backTo pos (starEach es X.env)).any (·.1) = false := by rfl) :
    PE X (.Call (.Name x p) (e :: es) [] pos) (tCall sp [] E0 t) := by
  obtain ⟨f, fd, F, hb, hk, hm, _⟩ := h
  exact pe_call F hr hg hm hk (.all hb) .nil pass0 ha hdb he hpl
def TF (K : PySem.W.Frag) (mg : Str → Option Value) (x : Str) (st : Stmt) : Prop := ∃ f fd, Fun K x x st f fd ∧ mg x = some (.ref f)
theorem tf_mk {K : PySem.W.Frag} {h : Heap} {mg : Str → Option Value} {x : Str} {st : Stmt} {f : Addr} {oc : Value} {od an : Option Addr} {osl : Array (Option Value)} {kV doc pm cdv ct : Value} (X : K.In h) (G : h.Ns mainGlobals mg)
    (a : PySem.W.nsIn K mainGlobals x = some (some (.ref f))) (l : K.lookup f = some ⟨oc, od, .func (PySem.W.fnOf x x (defArgs st) (defBody st) (defScope st) .none kV doc pm an cdv ct), osl⟩) (c : PySem.W.codeIn K cdv x = true) (k : PySem.W.keepIn K (.ref f) = true) : TF K mg x st :=
  ⟨f, _, fun_mk l c k, PySem.W.mg_of X G a⟩
theorem TF.has {P : Program} {w : World} {K : PySem.W.Frag} {mg : Str → Option Value} {base : Heap} {x : Str} {st : Stmt} {N ps : List Str} {k : Nat} {sp : Sp} (T : TF K mg x st) (S : FnScope N ps (defScope st))
    (hb : ∀ (kV doc pm : Value) (an : Option Addr) (cdv ct : Value) (us : List Value), us.length = ps.length → bindArgs (PySem.W.fnOf x x (defArgs st) (defBody st) (defScope st) .none kV doc pm an cdv ct) ⟨us, []⟩ = pure (ps.zip us))
    (len : ∀ vs H Q E, sp vs H Q E → vs.length = ps.length)
    (hbody : ∀ (f : Addr) (cdv : Value) (A : Around) (outer : List Env) (s : Shared) (H : Hp) (vs : List V) (Q : VK) (E : XK), Room k (A.deeper (envOfC x (defScope st) s.heap.objs.size f cdv)) → sp vs H Q E →
      ∃ t, PSs (cxOf CX0 P w K mg base N x (defScope st) f cdv A outer s H E).nox (defBody st) t ∧ t { nx := fun _ H' => Q .non H', rt := Q } (start N vs) H) : Has P w K mg base (k + 1) x ps sp := by
  obtain ⟨f, fd, F, m⟩ := T
  have ok := F.ok (P := P) (w := w) (mg := mg) (base := base) S len fun cdv A outer s H vs Q E hr hsp => hbody f cdv A outer s H vs Q E hr hsp
  obtain ⟨oc, od, kV, doc, pm, an, cdv, ct, osl, rfl, lk, hcd⟩ := F.ex
  exact ⟨f, _, ok, hb kV doc pm an cdv ct, F.kp, m, oc, od, osl, lk⟩
theorem has_law {P : Program} {w : World} {K : PySem.W.Frag} {mg : Str → Option Value} {h : Heap} {k : Nat} {sp : Sp} {fa : Addr} (KX : K.In h) (G : h.Ns mainGlobals mg) (hfa : mg "law" = some (.ref fa))
    (H : ∀ base : Heap, K.In base → base.Ns mainGlobals mg → Has P w K mg base k "law" ["script"] sp) :
    ∃ fd : FuncData, (∀ (s : Shared) (v : Value), BindsTo s fd ⟨[v], []⟩ [("script", v)]) ∧ ∀ base : Heap, K.In base → base.Ns mainGlobals mg → FnOk P w K mg base CX0 k fa fd ["script"] sp := by
  obtain ⟨f, fd, F, hb, hk, hm, oc, od, osl, hl⟩ := H h KX G
  rw [hfa] at hm
  cases hm
  refine ⟨fd, fun s v => .of_eq (hb [v] rfl), fun base kb nb => ?_⟩
  obtain ⟨f', fd', F', _, _, hm', oc', od', osl', hl'⟩ := H base kb nb
  rw [hfa] at hm'
  cases hm'
  rw [hl] at hl'
  cases hl'
  exact F'

theorem bits_weight {ns : List Int} : ∀ z ∈ ns, Builtin.Int.intBits z ≤ PySem.W.WData.weightAll (ns.map PySem.W.WData.int) := by
  induction ns with
  | nil => intro z hz; cases hz
  | cons a r ih =>
    intro z hz
    rw [List.map_cons]
    show _ ≤ PySem.W.WData.weight (.int a) + 1 + PySem.W.WData.weightAll (r.map PySem.W.WData.int)
    rcases List.mem_cons.mp hz with e | hz
    · subst e
      have : PySem.W.WData.weight (.int z) = Builtin.Int.intBits z := rfl
      omega
    · have := ih z hz
      omega
open PySem.W in
theorem law_walk {l : PySem.W.OpenLaw} {k : Nat} {q : Program} {loose : List Str} {XP : (Str → Option Value) → Heap → Prop} {YP : World → Heap → Prop} {d : DefRec} {K : Params → PySem.W.Frag} {sp : PySem.W.Frag → Sp}
    (hn : l.most = some 63) (hdf : d.params.defaults = []) (hr : Room k callerA)
    (hY : ∀ (w : World) (h : Heap), YP w h → (K w.params).In h)
    (F : ∀ (w : World) (mg : Str → Option Value) (fa : Addr) (h : Heap), (K w.params).In h → h.Ns mainGlobals mg → mg d.name = some (.ref fa) →
      ∃ fd : FuncData, (∀ (s : Shared) (u : Value), BindsTo s fd ⟨[u], []⟩ [("script", u)]) ∧
        ∀ base : Heap, (K w.params).In base → base.Ns mainGlobals mg → FnOk l.prog w (K w.params) mg base CX0 k fa fd ["script"] (sp (K w.params)))
    (hsp : ∀ (K : PySem.W.Frag) (H : Hp) (a : Addr) (ns : List Int), ns.length ≤ 63 → (∀ z ∈ ns, Builtin.Int.intBits z ≤ 2 ^ 20) → SqL K H a (ns.map V.int) → sp K [.ref a] H (fun v _ => v = .bl true) fun _ _ _ => False) :
    PySem.W.WalkO q loose XP YP l.row.toRowW d [] (fun f vs => PySem.call f vs) := by
  intro w s₀ s₁ mg mb G Y fa o pm cd doc dV kV ho hd hcd hD hmg hg args vals as hpre hlay hrd hwl hlo
  obtain rfl : dV = .none := Dflts.none hD hdf
  obtain rfl : kV = .none := Dflts.noKw hD
  obtain ⟨a, vs, ns, rfl, rfl, hobj, hints, hlen⟩ := Att.script_of hn hpre hwl
  have hbits : ∀ z ∈ ns, Builtin.Int.intBits z ≤ 2 ^ 20 := fun z hz => by
    have h1 : WData.layable (WData.list (ns.map WData.int)) = true := by
      have := hlay
      simp only [WData.layableAll, List.all_cons, List.all_nil, Bool.and_true] at this
      exact this
    unfold WData.layable at h1
    have h2 : WData.weight (WData.list (ns.map WData.int)) ≤ 2 ^ 20 := by
      have := (Bool.and_eq_true_iff.mp h1).2
      exact of_decide_eq_true this
    exact Nat.le_trans (bits_weight z hz) h2
  have KX := hY w _ Y
  obtain ⟨fd, hb, hF⟩ := F w mg fa _ KX G.T.g hmg
  refine enter_call (codeAny_mono (law_call (CX := CX0) (sp := sp (K w.params)) KX G.T.g G.T.b G.T.builtins G.T.nolimit hg hobj hints (Nat.le_trans hlen (by decide)) hr hF hb (fun H _ hS => hsp _ H a ns hlen hbits hS) fun _ _ _ z => z) fun r s' hq => ?_)
  obtain ⟨rfl, h2, h3, h4⟩ := hq
  exact ⟨.inl ⟨.bool true, .bool true, [], rfl, fun _ => rfl, .bool true, Att.post_true l _, fun _ => ⟨List.Pairwise.nil, fun _ hm => (nomatch hm)⟩⟩, h2, h3, h4⟩

def CDivA (_ j : Int) : Prop := 0 < j ∧ j.natAbs.log2 < 9000
theorem op_fdivA {X : Cx} : OpR X (binaryOp .FloorDiv) (rI CDivA fun i j => .int (i / j)) := opI fun i j _ _ _ _ _ hc q => by
  refine floordiv_int (by have := hc.1; omega) ?_ (.inl (PyProof.noPylong_of_log2 hc.2))
  rw [Int.fdiv_eq_ediv_of_nonneg i (Int.le_of_lt hc.1)]
  exact q
theorem divA {i j : Int} (n : Nat) (h0 : 0 < j) (h : j.natAbs < 2 ^ n) (hn : n ≤ 9000) : CDivA i j := ⟨h0, Nat.lt_of_lt_of_le ((Nat.log2_lt (by omega)).mpr h) hn⟩

def rIsI (K : PySem.W.Frag) : List V → Hp → VK → Prop := fun xs H Q => ∃ x T t b, xs = [x, .ty T] ∧ TyOf K H x t ∧ PySem.W.kitOne K t (.type T) = some b ∧ Q (.bl b) H
theorem call_isI {X : Cx} : CallR X (.builtin "isinstance") (rIsI X.K) := by
  intro pins s σ H xs us Q I r h
  obtain ⟨x, T, t, b, rfl, ty, e, q⟩ := h
  obtain ⟨u, c, rfl, r1, r2⟩ := Vals.two r
  obtain rfl : c = Value.type T := r2
  exact isinst_ok I r1 ty e fun tk => ⟨.bl b, H, I.tok tk, rfl, q⟩

section
variable {D : Ends} {σ : St} {H : Hp} {Q : VK}
theorem tSeq_ap {t u : TS} : tSeq t u D σ H = t { D with nx := u D } σ H := rfl
theorem tIfS_ap {c : TT} {t u : TS} : tIfS c t u D σ H = c σ H fun b H1 => if b = true then t D σ H1 else u D σ H1 := rfl
theorem tAsg_ap {te : TE} {g : TG} : tAsg te g D σ H = te σ H fun x H1 => g x σ H1 D.nx := rfl
theorem gName_ap {i : Nat} {v : V} {R : St → Hp → Prop} : gName i v σ H R = R (σ.set i (some v)) H := rfl
theorem tRet_ap {te : TE} : tRet te D σ H = te σ H D.rt := rfl
theorem tRetN_ap : tRetN D σ H = D.rt .non H := rfl
theorem tNext_ap : tNext D σ H = D.nx σ H := rfl
theorem tBreak_ap : tBreak D σ H = D.bk σ H := rfl
theorem tCont_ap : tCont D σ H = D.ct σ H := rfl
theorem tDrop_ap {te : TE} : tDrop te D σ H = te σ H fun _ H1 => D.nx σ H1 := rfl
theorem tC_ap {v : V} : tC v σ H Q = Q v H := rfl
theorem tVar_ap {i : Nat} {v : V} (h : σ[i]? = some (some v)) : tVar i σ H Q = Q v H := propext ⟨fun ⟨u, e, q⟩ => by rw [h] at e; cases e; exact q, fun q => ⟨v, h, q⟩⟩
theorem tVar_0 {v : V} {l : St} : tVar 0 (some v :: l) H Q = Q v H := tVar_ap rfl
theorem tVar_s {i : Nat} {o : Option V} {l : St} : tVar (i + 1) (o :: l) H Q = tVar i l H Q := rfl
theorem tOp_ap {r : R2} {ta tb : TE} : tOp r ta tb σ H Q = ta σ H fun x H1 => tb σ H1 fun y H2 => r x y H2 Q := rfl
theorem tUn_ap {r : V → Hp → VK → Prop} {ta : TE} : tUn r ta σ H Q = ta σ H fun x H1 => r x H1 Q := rfl
theorem rI0_ap {g : Int → Int → V} {i j : Int} : rI0 g (.int i) (.int j) H Q = Q (g i j) H := propext ⟨fun ⟨a, b, e1, e2, q⟩ => by cases e1; cases e2; exact q, fun q => ⟨i, j, rfl, rfl, q⟩⟩
theorem rI_ap {C : Int → Int → Prop} {g : Int → Int → V} {i j : Int} : rI C g (.int i) (.int j) H Q = (C i j ∧ Q (g i j) H) := propext ⟨fun ⟨a, b, e1, e2, q⟩ => by cases e1; cases e2; exact q, fun q => ⟨i, j, rfl, rfl, q⟩⟩
theorem rU_ap {g : Int → V} {i : Int} : rU g (.int i) H Q = Q (g i) H := propext ⟨fun ⟨a, e1, q⟩ => by cases e1; exact q, fun q => ⟨i, rfl, q⟩⟩
theorem rEq_int {i j : Int} : rEq (.int i) (.int j) H Q = Q (.bl (decide (i = j))) H := propext ⟨fun ⟨_, q⟩ => by simpa using q, fun q => ⟨rfl, by simpa using q⟩⟩
theorem rNe_int {i j : Int} : rNe (.int i) (.int j) H Q = Q (.bl (!decide (i = j))) H := propext ⟨fun ⟨_, q⟩ => by simpa using q, fun q => ⟨rfl, by simpa using q⟩⟩
theorem tTest_ap {t : TE} {R : Bool → Hp → Prop} : tTest t σ H R = t σ H fun x H' => ∃ k, x = .bl k ∧ R k H' := rfl
theorem ex_bl {b : Bool} {R : Bool → Prop} : (∃ k, V.bl b = .bl k ∧ R k) = R b := propext ⟨fun ⟨k, e, q⟩ => by cases e; exact q, fun q => ⟨b, rfl, q⟩⟩
theorem ex_ref {a : Addr} {R : Addr → Prop} : (∃ k, V.ref a = .ref k ∧ R k) = R a := propext ⟨fun ⟨k, e, q⟩ => by cases e; exact q, fun q => ⟨a, rfl, q⟩⟩
theorem ex_int {a : Int} {R : Int → Prop} : (∃ k, V.int a = .int k ∧ R k) = R a := propext ⟨fun ⟨k, e, q⟩ => by cases e; exact q, fun q => ⟨a, rfl, q⟩⟩
theorem tAnd_ap {t u : TT} {R : Bool → Hp → Prop} : tAnd t u σ H R = t σ H fun c H1 => if c = true then u σ H1 R else R false H1 := rfl
theorem tOr_ap {t u : TT} {R : Bool → Hp → Prop} : tOr t u σ H R = t σ H fun c H1 => if c = true then R true H1 else u σ H1 R := rfl
theorem tNot_ap {t : TT} {R : Bool → Hp → Prop} : tNot t σ H R = t σ H fun c H1 => R (!c) H1 := rfl
theorem tAndV_ap {ta tb : TE} : tAndV ta tb σ H Q = ta σ H fun x H1 => ∃ c, x = .bl c ∧ if c = true then tb σ H1 Q else Q (.bl false) H1 := rfl
theorem tOrV_ap {ta tb : TE} : tOrV ta tb σ H Q = ta σ H fun x H1 => ∃ c, x = .bl c ∧ if c = true then Q (.bl true) H1 else tb σ H1 Q := rfl
theorem tNotV_ap {ta : TE} : tNotV ta σ H Q = ta σ H fun x H1 => ∃ c, x = .bl c ∧ Q (.bl (!c)) H1 := rfl
theorem tIf_ap {t : TT} {ta tb : TE} : tIf t ta tb σ H Q = t σ H fun c H1 => if c = true then ta σ H1 Q else tb σ H1 Q := rfl
theorem tNil_ap {R : List V → Hp → Prop} : tNil σ H R = R [] H := rfl
theorem tCons_ap {ta : TE} {tr : TA} {R : List V → Hp → Prop} : tCons ta tr σ H R = ta σ H fun x H1 => tr σ H1 fun xs H2 => R (x :: xs) H2 := rfl
theorem tTup_ap {t : TA} : tTup t σ H Q = t σ H fun xs H1 => xs.length ≤ sizeLine ∧ ∀ p, H1 p = none → Q (.ref p) (upd H1 p (.tup xs)) := rfl
theorem tLst_ap {t : TA} : tLst t σ H Q = t σ H fun xs H1 => xs.length ≤ sizeLine ∧ ∀ p, H1 p = none → Q (.ref p) (upd H1 p (.lst xs)) := rfl
theorem tCall_ap {sp : Sp} {dvs : List V} {E : XK} {t : TA} : tCall sp dvs E t σ H Q = t σ H fun vs H1 => sp (vs ++ dvs) H1 Q E := rfl
theorem tCB_ap {r : List V → Hp → VK → Prop} {t : TA} : tCB r t σ H Q = t σ H fun vs H1 => r vs H1 Q := rfl
theorem tChain_ap {r r' : R2} {ta tb tc : TE} : tChain r r' ta tb tc σ H Q = ta σ H fun x H1 => tb σ H1 fun y H2 => r x y H2 fun z H3 => ∃ k, z = .bl k ∧ (if k = true then tc σ H3 fun w' H4 => r' y w' H4 Q else Q (.bl false) H3) := rfl
theorem tPar_ap {i j : Nat} {ta : TA} : tPar i j ta D σ H = ta σ H fun vs H1 => ∃ v w, vs = [v, w] ∧ D.nx ((σ.set i (some v)).set j (some w)) H1 := rfl
theorem ex_two {v w : V} {R : V → V → Prop} : (∃ a b, [v, w] = [a, b] ∧ R a b) = R v w := propext ⟨fun ⟨a, b, e, q⟩ => by cases e; exact q, fun q => ⟨v, w, rfl, q⟩⟩
theorem tAug_ap {i : Nat} {te : TE} {ti : TIp} : tAug i te ti D σ H = tVar i σ H fun x _ => te σ H fun y H1 => ti x y H1 fun z H2 => D.nx (σ.set i (some z)) H2 := rfl
theorem ipI_ap {f : Int → Int → Int} {i j : Int} : ipI f (.int i) (.int j) H Q = Q (.int (f i j)) H := propext ⟨fun ⟨a, b, e1, e2, q⟩ => by cases e1; cases e2; exact q, fun q => ⟨i, j, rfl, rfl, q⟩⟩
theorem tSl_ap {r : V → Option Int → Option Int → Hp → VK → Prop} {te : TE} {tl th : TO} : tSl r te tl th σ H Q = te σ H fun x H1 => tl σ H1 fun l H2 => th σ H2 fun u H3 => r x l u H3 Q := rfl
theorem tNoPart_ap {R : Option Int → Hp → Prop} : tNoPart σ H R = R none H := rfl
theorem tPart_ap {t : TE} {R : Option Int → Hp → Prop} : tPart t σ H R = t σ H fun x H1 => ∃ i, x = .int i ∧ R (some i) H1 := rfl
theorem tBM_ap {K : PySem.W.Frag} {T : String} {r : V → List V → Hp → VK → Prop} {to : TE} {t : TA} : tBM K T r to t σ H Q = to σ H fun x H1 => tyV K T x H1 ∧ t σ H1 fun xs H2 => r x xs H2 Q := rfl
theorem tTrue_ap {R : Bool → Hp → Prop} : tTrue σ H R = R true H := rfl
theorem gSub_ap {to ti : TE} {t : TSet} {v : V} {R : St → Hp → Prop} : gSub to ti t v σ H R = to σ H fun o H1 => ti σ H1 fun i H2 => t o i v H2 fun H3 => R σ H3 := rfl
theorem ite_and {c : Prop} [Decidable c] {A B : Prop} : (if c then A else B) = ((c → A) ∧ (¬ c → B)) := by
  by_cases h : c
  · simp [h]
  · simp [h]
def oV : Option Int → V
  | some i => .int i
  | none => .non
end
end L2
namespace L2
open PySem PySem.Spec PyProof.Rows
theorem cxOf_K {CX : CXT} {P : Program} {w : World} {K : PySem.W.Frag} {mg : Str → Option Value} {base : Heap} {N : List Str} {qual : Str} {scope : Scope} {f : Addr} {cd : Value} {A : Around} {outer : List Env} {s : Shared} {H : Hp} {E : XK} : (cxOf CX P w K mg base N qual scope f cd A outer s H E).K = K := rfl
theorem cxComp_K {X : Cx} {N : List Str} {scope : Scope} {cl : List (Str × Addr)} {s : Shared} {H : Hp} {fp : List Addr} : (cxComp X N scope cl s H fp).K = X.K := rfl
section
variable {D : Ends} {σ : St} {H : Hp} {Q : VK}
def ForW (J : It) (g : TG) (tb : TS) (D : Ends) (σ : St) (H : Hp) : Prop := ∃ W : Nat → Nat → St → Hp → Prop, (∃ m, W 0 m σ H) ∧ ∀ i m σ H, W i m σ H →
  (J.stop i H ∧ D.nx σ H) ∨ (J.go i H ∧ ∃ N : St → Hp → Prop, (∀ σ' H', N σ' H' → ∃ m', m' < m ∧ W (i + 1) m' σ' H') ∧ ∀ x H', J.yld i H x H' → g x σ H' fun σ2 H2 => tb { D with nx := N, ct := N, bk := D.nx } σ2 H2)
theorem tFor_ap {wi : TI} {g : TG} {tb : TS} : tFor wi g tb D σ H = wi σ H fun J H1 => ForW J g tb D σ H1 := rfl
theorem forW_list {K : PySem.W.Frag} {a : Addr} {xs : List V} {g : TG} {tb : TS} (Pv : Nat → St → Hp → Prop) (h0 : Pv 0 σ H) (hl : ∀ i σ H, i ≤ xs.length → Pv i σ H → SqL K H a xs)
    (hs : ∀ i x σ H, xs[i]? = some x → Pv i σ H → g x σ H fun σ2 H2 => tb { D with nx := Pv (i + 1), ct := Pv (i + 1), bk := D.nx } σ2 H2) (hd : ∀ σ H, Pv xs.length σ H → D.nx σ H) : ForW (Itl K a) g tb D σ H := for_list Pv h0 hl hs hd
theorem iRng1_ap {ta : TA} {R : It → Hp → Prop} : iRng1 ta σ H R = ta σ H fun vs H1 => ∃ j : Int, vs = [.int j] ∧ -(2 ^ 62) ≤ j ∧ j < 2 ^ 62 ∧ R (Itr 0 j.toNat) H1 := rfl
theorem iRng2_ap {ta : TA} {R : It → Hp → Prop} : iRng2 ta σ H R = ta σ H fun vs H1 => ∃ i j : Int, vs = [.int i, .int j] ∧ (-(2 ^ 62) ≤ i ∧ i < 2 ^ 62 ∧ -(2 ^ 62) ≤ j ∧ j < 2 ^ 62) ∧ R (Itr i (j - i).toNat) H1 := rfl
theorem iList_ap {K : PySem.W.Frag} {tl : TE} {R : It → Hp → Prop} : iList K tl σ H R = tl σ H fun x H1 => ∃ a, x = .ref a ∧ (∃ xs, SqL K H1 a xs) ∧ R (Itl K a) H1 := rfl
theorem iTup_ap {K : PySem.W.Frag} {tl : TE} {R : It → Hp → Prop} : iTup K tl σ H R = tl σ H fun x H1 => ∃ a, x = .ref a ∧ (∃ xs, SqT K H1 a xs) ∧ R (Itt K a) H1 := rfl
def CompW (J : It) (g : TG) (tt : TT) (te : TE) (own : List Str) (fr : List Nat) (σ : St) (H1 : Hp) (Q : VK) : Prop := ∀ D, H1 D = none → ∃ W : Nat → Nat → St → Hp → Prop, (∃ m, W 0 m (st0 own fr σ) (upd H1 D (.lst []))) ∧ ∀ i m σc H, W i m σc H →
  (J.stop i H ∧ Q (.ref D) H) ∨ (J.go i H ∧ ∃ N : St → Hp → Prop, (∀ σ' H', N σ' H' → ∃ m', m' < m ∧ W (i + 1) m' σ' H') ∧ ∀ x H', J.yld i H x H' → g x σc H' fun σ2 H2 => tt σ2 H2 fun b H3 =>
    if b = true then te σ2 H3 fun y H4 => ∃ ys, H4 D = some (.lst ys) ∧ ys.length < sizeLine ∧ N σ2 (upd H4 D (.lst (ys ++ [y]))) else N σ2 H3)
theorem tComp_ap {wi : TI} {g : TG} {tt : TT} {te : TE} {own : List Str} {fr : List Nat} : tComp wi g tt te own fr σ H Q = wi σ H fun J H1 => CompW J g tt te own fr σ H1 Q := rfl
def CompN (Sv : St → Prop) (Pv : Addr → Nat → List V → Hp → Prop) (D : Addr) (i : Nat) (σ : St) (H : Hp) : Prop := Sv σ ∧ ∃ ys, H D = some (.lst ys) ∧ ys.length ≤ i ∧ Pv D i ys H
def CompP (Sv : St → Prop) (Pv : Addr → Nat → List V → Hp → Prop) (D : Addr) (i : Nat) (σ2 : St) (y : V) (H4 : Hp) : Prop := ∃ ys, H4 D = some (.lst ys) ∧ ys.length < sizeLine ∧ CompN Sv Pv D (i + 1) σ2 (upd H4 D (.lst (ys ++ [y])))
theorem CompP.mk {Sv : St → Prop} {Pv : Addr → Nat → List V → Hp → Prop} {D : Addr} {i : Nat} {σ2 : St} {y : V} {H4 : Hp} {ys : List V} (h : H4 D = some (.lst ys)) (hl : ys.length ≤ i) (hi : i < sizeLine) (hS : Sv σ2) (hP : Pv D (i + 1) (ys ++ [y]) (upd H4 D (.lst (ys ++ [y])))) :
    CompP Sv Pv D i σ2 y H4 := ⟨ys, h, Nat.lt_of_le_of_lt hl hi, hS, _, upd_same, by simp; omega, hP⟩
theorem compW_list {K : PySem.W.Frag} {a : Addr} {xs : List V} {g : TG} {tt : TT} {te : TE} {own : List Str} {fr : List Nat} (Sv : St → Prop) (Pv : Addr → Nat → List V → Hp → Prop) (hS : Sv (st0 own fr σ))
    (h0 : ∀ D, H D = none → Pv D 0 [] (upd H D (.lst []))) (hl : ∀ D i ys H', H' D = some (.lst ys) → Pv D i ys H' → SqL K H' a xs)
    (hs : ∀ D i x ys σ H', xs[i]? = some x → i < xs.length → Sv σ → H' D = some (.lst ys) → ys.length ≤ i → Pv D i ys H' → g x σ H' fun σ2 H2 => tt σ2 H2 fun b H3 => if b = true then te σ2 H3 fun y H4 => CompP Sv Pv D i σ2 y H4 else CompN Sv Pv D (i + 1) σ2 H3)
    (hd : ∀ D ys H', H' D = some (.lst ys) → Pv D xs.length ys H' → Q (.ref D) H') : CompW (Itl K a) g tt te own fr σ H Q := by
  intro D hD
  refine ⟨fun i m σ H => m = xs.length - i ∧ i ≤ xs.length ∧ CompN Sv Pv D i σ H, ⟨_, rfl, Nat.zero_le _, hS, [], upd_same, Nat.le_refl _, h0 D hD⟩, ?_⟩
  rintro i m σ1 H1 ⟨rfl, hi, hs1, ys, hy, hy2, p⟩
  have q := hl D i ys H1 hy p
  by_cases hlt : i < xs.length
  · refine .inr ⟨⟨xs, xs[i], q, by simp [hlt]⟩, CompN Sv Pv D (i + 1), fun σ' H' p' => ⟨xs.length - (i + 1), by omega, rfl, hlt, p'⟩, fun x H' y => ?_⟩
    obtain ⟨e, y⟩ := y
    subst e
    exact hs D i x ys σ1 _ (y xs q) hlt hs1 hy hy2 p
  · have e : i = xs.length := by omega
    subst e
    exact .inl ⟨⟨xs, q, Nat.le_refl _⟩, hd D ys H1 hy p⟩
theorem rIxL_mk {K : PySem.W.Frag} {p : Addr} {xs : List V} {i : Int} {v : V} (h : SqL K H p xs) (e : atI xs i = some v) (q : Q v H) : rIxL K (.ref p) (.int i) H Q := ⟨p, xs, i, v, rfl, rfl, h, e, q⟩
theorem atI_getD {zs : List Int} {i : Int} (h0 : 0 ≤ i) (h1 : i < zs.length) : atI (zs.map V.int) i = some (.int (zs.getD i.toNat 0)) := by
  have hk : i.toNat < zs.length := by omega
  have ek : i = ((i.toNat : Nat) : Int) := by omega
  have q : atI (zs.map V.int) ((i.toNat : Nat) : Int) = some (.int (zs.getD i.toNat 0)) := atI_nat (by rw [List.getElem?_map, List.getElem?_eq_getElem hk, List.getD_eq_getElem?_getD, List.getElem?_eq_getElem hk]; rfl)
  rw [← ek] at q
  exact q
theorem Same.write {H H' : Hp} (g : Same H H') {p : Addr} (n : H p = none) (o : HO) : Same H (upd H' p o) := fun b u e => by rw [upd_ne (ne_of_none e n)]; exact g b u e
theorem gCons_ap {t : TG} {u : TGs} {v : V} {r : List V} {R : St → Hp → Prop} : gCons t u (v :: r) σ H R = t v σ H fun σ' H' => u r σ' H' R := propext ⟨fun ⟨a, b, e, q⟩ => by cases e; exact q, fun q => ⟨v, r, rfl, q⟩⟩
theorem gNil_ap {R : St → Hp → Prop} : gNil [] σ H R = R σ H := propext ⟨fun ⟨_, q⟩ => q, fun q => ⟨rfl, q⟩⟩
theorem tB_ap {t : TE} {R : Bool → Hp → Prop} : tB t σ H R = t σ H fun x H1 => ∃ c, x = .bl c ∧ R c H1 := rfl
theorem same_new {H : Hp} {p : Addr} (h : H p = none) (o : HO) : Same H (upd H p o) := fun b u q => by rw [upd_ne (ne_of_none q h)]; exact q
end
end L2
namespace L2
open PySem PySem.Spec PyProof.Rows
def Itv (K : PySem.W.Frag) (a : Addr) (n : Nat) : It :=
  ⟨fun i H => i < n ∧ ∃ xs, SqL K H a xs ∧ xs.length = n, fun i H x H' => H' = H ∧ ∀ xs, SqL K H a xs → xs[n - 1 - i]? = some x, fun i _ => i = n⟩
def iRev (K : PySem.W.Frag) (ta : TE) : TI := fun σ H R => ta σ H fun x H1 => ∃ a xs, x = .ref a ∧ SqL K H1 a xs ∧ R (Itv K a xs.length) H1
section
variable {X : Cx} {tg : Expr}
end
theorem iRev_ap {K : PySem.W.Frag} {tl : TE} {σ : St} {H : Hp} {R : It → Hp → Prop} : iRev K tl σ H R = tl σ H fun x H1 => ∃ a xs, x = .ref a ∧ SqL K H1 a xs ∧ R (Itv K a xs.length) H1 := rfl
end L2
namespace L2
open PySem PySem.Spec PyProof.Rows
def tCut (t : TS) : TS := fun D σ H => ∃ M : St → Hp → Prop, t { D with nx := M } σ H ∧ ∀ σ' H', M σ' H' → D.nx σ' H'
theorem ps_cut {X : Cx} {st : Stmt} {t : TS} (h : PS X st t) : PS X st (tCut t) := by
  intro pins s σ H D I hw
  obtain ⟨M, h1, h2⟩ := hw
  refine thn (h pins s σ H _ I h1) fun f s1 q => ?_
  cases f with
  | next => obtain ⟨σ', H', I', q⟩ := q; exact ⟨σ', H', I', h2 σ' H' q⟩
  | ret v => exact q
  | brk => exact q
  | cont => exact q
section
variable {X : Cx}
end
theorem isI_ii {K : PySem.W.Frag} {H : Hp} {Q : VK} {d : Int} : rIsI K [.int d, .ty "int"] H Q = Q (.bl true) H := propext ⟨fun ⟨x, T, t, b, e, ty, k, q⟩ => by
    cases e
    cases ty
    have : PySem.W.kitOne K (.type "int") (.type "int") = some true := rfl
    rw [this] at k
    cases k
    exact q, fun q => ⟨_, _, _, true, rfl, .int d, rfl, q⟩⟩
theorem isI_ib {K : PySem.W.Frag} {H : Hp} {Q : VK} {d : Int} : rIsI K [.int d, .ty "bool"] H Q = Q (.bl false) H := propext ⟨fun ⟨x, T, t, b, e, ty, k, q⟩ => by
    cases e
    cases ty
    have : PySem.W.kitOne K (.type "int") (.type "bool") = some false := rfl
    rw [this] at k
    cases k
    exact q, fun q => ⟨_, _, _, false, rfl, .int d, rfl, q⟩⟩
theorem isI_ni {K : PySem.W.Frag} {H : Hp} {Q : VK} : rIsI K [.non, .ty "int"] H Q = Q (.bl false) H := propext ⟨fun ⟨x, T, t, b, e, ty, k, q⟩ => by
    cases e
    cases ty
    have : PySem.W.kitOne K (.type "NoneType") (.type "int") = some false := rfl
    rw [this] at k
    cases k
    exact q, fun q => ⟨_, _, _, false, rfl, .non, rfl, q⟩⟩
theorem isI_bb {K : PySem.W.Frag} {H : Hp} {Q : VK} {d : Bool} : rIsI K [.bl d, .ty "bool"] H Q = Q (.bl true) H := propext ⟨fun ⟨x, T, t, b, e, ty, k, q⟩ => by
    cases e
    cases ty
    have : PySem.W.kitOne K (.type "bool") (.type "bool") = some true := rfl
    rw [this] at k
    cases k
    exact q, fun q => ⟨_, _, _, true, rfl, .bl d, rfl, q⟩⟩
def cutI (ns : List Int) (lo hi : Option Int) : List Int := (ns.drop (HT.sIx ns.length 0 lo)).take (HT.sIx ns.length ns.length hi - HT.sIx ns.length 0 lo)
theorem cutV_map (ns : List Int) (lo hi : Option Int) : cutV (ns.map V.int) lo hi = (cutI ns lo hi).map V.int := by
  unfold cutV cutI
  rw [List.length_map, List.map_take, List.map_drop]
end L2
namespace L2
open PySem PySem.Spec PyProof.Rows
section
variable {prog : Program} {w : World} {A : Around} {E : Value → Shared → Prop} {s : Shared}
end
def tListRev (K : PySem.W.Frag) (tl : TE) : TE := fun σ H Q => tl σ H fun x H1 => ∃ a xs, x = .ref a ∧ SqL K H1 a xs ∧ ∀ d, H1 d = none → Q (.ref d) (upd H1 d (.lst xs.reverse))
section
variable {X : Cx}
end
theorem tListRev_ap {K : PySem.W.Frag} {tl : TE} {σ : St} {H : Hp} {Q : VK} : tListRev K tl σ H Q = tl σ H fun x H1 => ∃ a xs, x = .ref a ∧ SqL K H1 a xs ∧ ∀ d, H1 d = none → Q (.ref d) (upd H1 d (.lst xs.reverse)) := rfl
end L2
namespace L2
open PySem PySem.Spec PyProof.Rows
mutual
inductive DD (K : PySem.W.Frag) (H : Hp) : V → PyData → Prop where
  | non : DD K H .non .none
  | bl (b : Bool) : DD K H (.bl b) (.bool b)
  | int (i : Int) : DD K H (.int i) (.int i)
  | str (x : Str) : DD K H (.str x) (.str x)
  | lst {a : Addr} {xs : List V} {ds : List PyData} : SqL K H a xs → DDs K H xs ds → DD K H (.ref a) (.list ds)
  | tup {a : Addr} {xs : List V} {ds : List PyData} : SqT K H a xs → DDs K H xs ds → DD K H (.ref a) (.tuple ds)
inductive DDs (K : PySem.W.Frag) (H : Hp) : List V → List PyData → Prop where
  | nil : DDs K H [] []
  | cons {x : V} {xs : List V} {d : PyData} {ds : List PyData} : DD K H x d → DDs K H xs ds → DDs K H (x :: xs) (d :: ds)
end
section
variable {X : Cx} {pins : List (Addr × Obj)} {σ : St} {H : Hp} {s : Shared}
end
theorem Same.seqT {K : PySem.W.Frag} {H H' : Hp} {a : Addr} {xs : List V} (e : Same H H') (h : SqT K H a xs) : SqT K H' a xs := by
  rcases h with (h | ⟨o, h⟩) | h
  · exact .inl (.inl (e _ _ h))
  · exact .inl (.inr ⟨o, e _ _ h⟩)
  · exact .inr h
mutual
theorem DD.mono {K : PySem.W.Frag} {H H' : Hp} (g : Same H H') : ∀ {v : V} {d : PyData}, DD K H v d → DD K H' v d
  | _, _, .non => .non
  | _, _, .bl b => .bl b
  | _, _, .int i => .int i
  | _, _, .str x => .str x
  | _, _, .lst h hs => .lst (g.seq h) (DDs.mono g hs)
  | _, _, .tup h hs => .tup (Same.seqT g h) (DDs.mono g hs)
theorem DDs.mono {K : PySem.W.Frag} {H H' : Hp} (g : Same H H') : ∀ {vs : List V} {ds : List PyData}, DDs K H vs ds → DDs K H' vs ds
  | _, _, .nil => .nil
  | _, _, .cons h hs => .cons (DD.mono g h) (DDs.mono g hs)
end
section
variable {X : Cx}
def rCatS (K : PySem.W.Frag) : R2 := fun x y H Q => ∃ l b xs zs, x = .ref l ∧ y = .ref b ∧ SqL K H l xs ∧ SqL K H b zs ∧ xs.length + zs.length ≤ sizeLine ∧ ∀ p, H p = none → Q (.ref p) (upd H p (.lst (xs ++ zs)))
theorem op_catS : OpR X (binaryOp .Add) (rCatS X.K) := by
  intro pins s σ H x y v u Q I rx ry h
  obtain ⟨l, b, xs, zs, rfl, rfl, hH, hB, hz, q⟩ := h
  cases rx
  cases ry
  obtain ⟨its, r, pa, _⟩ := I.list hH
  obtain ⟨its2, r2, pb, _⟩ := I.list hB
  have hl := r.length
  have hl2 := r2.length
  obtain ⟨⟨cls, dd, data, sl⟩, ho, hc, n, hd⟩ := pa.isList
  obtain ⟨⟨cls2, dd2, data2, sl2⟩, ho2, hc2, n2, hd2⟩ := pb.isList
  simp only at hc hd hc2 hd2
  subst hc hd hc2 hd2
  have e : its.toArray ++ its2.toArray = (its ++ its2).toArray := by simp
  refine concat_meets ⟨_, ho, rfl⟩ ⟨_, ho2, rfl⟩ noFill_list_add seq_list_add PySem.F.slot_list_add PySem.F.entry_list_add (PySem.F.args_list_add_2 _ _) (list_addW l b its.toArray its2.toArray n n2 dd dd2 sl sl2 (by simp only [List.size_toArray]; omega)) ⟨ho, ho2, ?_⟩
  rw [e]
  exact ⟨.ref _, _, I.lnew (t' := s.toks) (r.append r2) (by rw [List.length_append]; omega), rfl, q _ I.fresh⟩
end
end L2
namespace L2
open PySem PySem.Spec PyProof.Rows
section
variable {prog : Program} {w : World} {B : Around} {it : Addr} {fp wr : List Addr} {GG : Array GenState → Array GenState → Prop} {n : Nat} {PV : Nat → Value → Prop} {SV : Nat → Shared → Prop} {RR : Result → Shared → Prop}
end
def tMinD (K : PySem.W.Frag) (tl td : TE) : TE := fun σ H Q => tl σ H fun x H1 => td σ H1 fun d H2 => ∃ (a : Addr) (ns : List Int), x = .ref a ∧ SqL K H2 a (ns.map V.int) ∧ (ns = [] → Q d H2) ∧ ∀ M, M ∈ ns → (∀ z ∈ ns, M ≤ z) → Q (.int M) H2
section
variable {X : Cx}
end
theorem tMinD_ap {K : PySem.W.Frag} {tl td : TE} {σ : St} {H : Hp} {Q : VK} : tMinD K tl td σ H Q = tl σ H fun x H1 => td σ H1 fun d H2 => ∃ (a : Addr) (ns : List Int), x = .ref a ∧ SqL K H2 a (ns.map V.int) ∧ (ns = [] → Q d H2) ∧ ∀ M, M ∈ ns → (∀ z ∈ ns, M ≤ z) → Q (.int M) H2 := rfl

section
variable {prog : Program} {w : World} {B : Around} {it : Addr} {fp wr : List Addr} {GG : Array GenState → Array GenState → Prop} {n : Nat} {PV : Nat → Value → Prop} {SV : Nat → Shared → Prop} {RR : Result → Shared → Prop}
end
def tMaxD (K : PySem.W.Frag) (tl td : TE) : TE := fun σ H Q => tl σ H fun x H1 => td σ H1 fun d H2 => ∃ (a : Addr) (ns : List Int), x = .ref a ∧ SqL K H2 a (ns.map V.int) ∧ (ns = [] → Q d H2) ∧ ∀ M, M ∈ ns → (∀ z ∈ ns, z ≤ M) → Q (.int M) H2
section
variable {X : Cx}
end
theorem tMaxD_ap {K : PySem.W.Frag} {tl td : TE} {σ : St} {H : Hp} {Q : VK} : tMaxD K tl td σ H Q = tl σ H fun x H1 => td σ H1 fun d H2 => ∃ (a : Addr) (ns : List Int), x = .ref a ∧ SqL K H2 a (ns.map V.int) ∧ (ns = [] → Q d H2) ∧ ∀ M, M ∈ ns → (∀ z ∈ ns, z ≤ M) → Q (.int M) H2 := rfl
end L2
namespace L2
open PySem PySem.Spec PyProof.Rows
def CapOk (X : Cx) (scope : Scope) : List Str → List Nat → List (Str × Addr) → Prop
  | [], [], [] => True
  | y :: ys, j :: js, (n, a) :: r => n = y ∧ X.N[j]? = some y ∧ X.env.scope.names.lookup y = some .cell ∧ X.env.cells.lookup y = some a ∧ scope.names.lookup y = some .free ∧ CapOk X scope ys js r
  | _, _, _ => False
theorem CapOk.inn {X : Cx} {scope : Scope} : ∀ {ys : List Str} {js : List Nat} {cl : List (Str × Addr)}, CapOk X scope ys js cl → ∀ y c, cl.lookup y = some c → X.env.cells.lookup y = some c
  | [], [], [], _, y, c, e => nomatch e
  | y :: ys, j :: js, (n, a) :: r, ⟨hn, _, _, h, _, t⟩, z, c, e => by
    subst hn
    rw [List.lookup_cons] at e
    cases q : z == n with
    | true =>
      rw [q] at e
      have : z = n := by simpa using q
      subst this
      exact h.trans e
    | false =>
      rw [q] at e
      exact CapOk.inn t z c e
theorem CapOk.mem {X : Cx} {scope : Scope} : ∀ {ys : List Str} {js : List Nat} {cl : List (Str × Addr)}, CapOk X scope ys js cl → ∀ y ∈ ys, ∃ c, cl.lookup y = some c
  | [], [], [], _, y, h => nomatch h
  | y :: ys, j :: js, (n, a) :: r, ⟨hn, _, _, _, _, t⟩, z, e => by
    subst hn
    rw [List.lookup_cons]
    cases q : z == n with
    | true => exact ⟨_, rfl⟩
    | false =>
      rcases List.mem_cons.mp e with e | e
      · subst e; simp at q
      · exact CapOk.mem t z e
theorem CapOk.len {X : Cx} {scope : Scope} : ∀ {ys : List Str} {js : List Nat} {cl : List (Str × Addr)}, CapOk X scope ys js cl → ys.length = js.length
  | [], [], [], _ => rfl
  | _ :: _, _ :: _, (_, _) :: _, ⟨_, _, _, _, _, t⟩ => congrArg (· + 1) (CapOk.len t)
theorem CapOk.at {X : Cx} {scope : Scope} : ∀ {ys : List Str} {js : List Nat} {cl : List (Str × Addr)}, CapOk X scope ys js cl → ∀ (k : Nat) (y : Str), ys[k]? = some y →
    ∃ j, js[k]? = some j ∧ X.N[j]? = some y ∧ X.env.scope.names.lookup y = some .cell ∧ scope.names.lookup y = some .free
  | [], [], [], _, k, y, e => by simp at e
  | y :: ys, j :: js, (n, a) :: r, ⟨hn, h1, h2, _, h3, t⟩, k, z, e => by
    subst hn
    cases k with
    | zero => cases e; exact ⟨j, rfl, h1, h2, h3⟩
    | succ k => exact CapOk.at t k z e
theorem lookup_mem {α : Type} : ∀ {l : List (Str × α)} {y : Str} {k : α}, l.lookup y = some k → (y, k) ∈ l
  | [], _, _, e => nomatch e
  | (n, q) :: r, y, k, e => by
    rw [List.lookup_cons] at e
    cases hy : y == n with
    | true =>
      rw [hy] at e
      have : y = n := by simpa using hy
      subst this
      cases e
      exact .head _
    | false =>
      rw [hy] at e
      exact .tail _ (lookup_mem e)
theorem relabel_free {env : Env} : ∀ {names : List (Str × NameKind)} {x : Str}, names.lookup x = some .free →
    (names.map fun (n, k) => if (k == NameKind.free && env.scope.kind == .function && env.kindOf n == some .cell) then (n, NameKind.cell) else (n, k)).lookup x = some .cell ∨
    (names.map fun (n, k) => if (k == NameKind.free && env.scope.kind == .function && env.kindOf n == some .cell) then (n, NameKind.cell) else (n, k)).lookup x = some .free
  | [], _, h => nomatch h
  | (n, k) :: r, x, h => by
    rw [List.lookup_cons] at h
    rw [List.map_cons]
    cases hy : x == n with
    | true =>
      rw [hy] at h
      cases h
      dsimp only
      split
      · left; rw [List.lookup_cons, hy]
      · right; rw [List.lookup_cons, hy]
    | false =>
      rw [hy] at h
      have ih := relabel_free (env := env) h
      dsimp only
      split
      · rw [List.lookup_cons, hy]; exact ih
      · rw [List.lookup_cons, hy]; exact ih
theorem CompSc.capt {X : Cx} {own capt : List Str} {scope : Scope} {cl : List (Str × Addr)} {fr : List Nat} (clo : closureFor scope X.env = pure cl) (ok : CapOk X scope capt fr cl) (h1 : ∀ z ∈ scope.names, z.2 = .free → z.1 ∈ capt)
    (h2 : ∀ y ∈ scope.names, y.2 ≠ .cell) (kind : scope.kind = .function) (names : ∀ y ∈ scope.names, y.2 = .local → scope.names.lookup y.1 = some .local) : CompSc X own capt scope cl fr where
  clos := clo
  nocell := h2
  kind := kind
  names := names
  inn := ok.inn
  has := fun y e => by
    refine ok.mem y ?_
    have key : ∃ k, (y, k) ∈ (relabel scope X.env).names ∧ (k = .cell ∨ k = .free) := by
      rcases e with e | e
      · exact ⟨_, lookup_mem e, .inl rfl⟩
      · exact ⟨_, lookup_mem e, .inr rfl⟩
    obtain ⟨k, hm, hk⟩ := key
    unfold relabel at hm
    obtain ⟨⟨n, k0⟩, h3, h4⟩ := List.mem_map.mp hm
    have h5 : n = y ∧ k0 = .free := by
      dsimp only at h4
      split at h4
      · rename_i c
        cases h4
        simp only [Bool.and_eq_true, beq_iff_eq] at c
        exact ⟨rfl, c.1.1⟩
      · cases h4
        rcases hk with rfl | rfl
        · exact absurd rfl (h2 _ h3)
        · exact ⟨rfl, rfl⟩
    obtain ⟨rfl, rfl⟩ := h5
    exact h1 _ h3 rfl
  cap := fun k y e => by
    obtain ⟨j, e1, e2, e3, e4⟩ := ok.at k y e
    obtain ⟨c, hc⟩ := ok.mem y (List.mem_of_getElem? e)
    exact ⟨j, c, e1, e2, e3, hc, relabel_free e4⟩
  len := ok.len
end L2
namespace SM
end SM
namespace SM

def cdiv (n b : Int) : Int := -((-n) / b)
theorem cdiv_spec {n b : Int} (hb : 0 < b) : n ≤ b * cdiv n b ∧ b * cdiv n b < n + b := by
  unfold cdiv
  have h1 := Int.mul_ediv_add_emod (-n) b
  have h2 := Int.emod_nonneg (-n) (show b ≠ 0 by omega)
  have h3 := Int.emod_lt_of_pos (-n) hb
  rw [Int.mul_neg]
  omega
theorem cdiv_le {n b k : Int} (hb : 0 < b) (h : n ≤ b * k) : cdiv n b ≤ k := by
  have := (cdiv_spec (n := n) hb).2
  by_cases c : cdiv n b ≤ k
  · exact c
  · exfalso
    have h1 : k + 1 ≤ cdiv n b := by omega
    have h2 := Int.mul_le_mul_of_nonneg_left h1 (Int.le_of_lt hb)
    rw [Int.mul_add, Int.mul_one] at h2
    omega
structure Lvl (w a lo n : Int) : Prop where
  a0 : 0 ≤ a
  aw : a < w
  n1 : 1 ≤ n
  l1 : 1 ≤ lo
  l2 : lo + n ≤ w
theorem Lvl.down {w a lo n : Int} (L : Lvl w a lo n) (h : 0 < a) (h2 : ¬ a * cdiv lo a ≤ lo + n - 1) : Lvl a (w % a) ((-(lo + n - 1)) % a) n := by
  obtain ⟨a0, aw, n1, l1, l2⟩ := L
  have c1 := cdiv_spec (n := lo) h
  have e1 := Int.emod_nonneg w (show a ≠ 0 by omega)
  have e2 := Int.emod_lt_of_pos w h
  have m1 := Int.emod_nonneg (-(lo + n - 1)) (show a ≠ 0 by omega)
  have m2 := Int.emod_lt_of_pos (-(lo + n - 1)) h
  have m3 := Int.mul_ediv_add_emod (-(lo + n - 1)) a
  generalize hq : (-(lo + n - 1)) / a = q at m3
  generalize (-(lo + n - 1)) % a = r at m1 m2 m3 ⊢
  -- a (cdiv - 1) < lo, lo + n ≤ a cdiv
  have k : -q = cdiv lo a ∨ -q ≠ cdiv lo a := by omega
  -- -q * a = lo + n - 1 + r
  have e : a * (-q) = lo + n - 1 + r := by rw [Int.mul_neg]; omega
  have cq : cdiv lo a ≤ -q := cdiv_le h (by omega)
  have cq2 : -q ≤ cdiv lo a := by
    by_cases z : -q ≤ cdiv lo a
    · exact z
    · exfalso
      have := Int.mul_le_mul_of_nonneg_left (show cdiv lo a + 1 ≤ -q by omega) (Int.le_of_lt h)
      rw [Int.mul_add, Int.mul_one] at this
      omega
  have cq3 : -q = cdiv lo a := by omega
  rw [cq3] at e
  exact ⟨e1, e2, n1, by omega, by omega⟩
end SM
namespace SM
end SM
namespace SM
def NoPart (n k : Int) : Prop := ∀ d, 2 ≤ d → d < k → ¬ d ∣ n
structure IsPart (n d : Int) : Prop where
  two : 2 ≤ d
  dvd : d ∣ n
  least : NoPart n d
theorem isPart_self {n p : Int} (h2 : 2 ≤ n) (h : NoPart n p) (hp : 0 ≤ p) (hs : n < p * p) : IsPart n n := by
  refine ⟨h2, Int.dvd_refl n, fun d d2 dn dd => ?_⟩
  obtain ⟨e, he⟩ := dd
  have d0 : 0 < d := by omega
  have e2 : 2 ≤ e := by
    rcases (show e ≤ 0 ∨ e = 1 ∨ 2 ≤ e by omega) with c | c | c
    · have := Int.mul_le_mul_of_nonneg_left c (Int.le_of_lt d0); rw [Int.mul_zero] at this; omega
    · subst c; omega
    · exact c
  have hd : p ≤ d := by
    by_cases c : p ≤ d
    · exact c
    · exact absurd ⟨e, he⟩ (h d d2 (by omega))
  have hee : p ≤ e := by
    by_cases c : p ≤ e
    · exact c
    · exact absurd ⟨d, by rw [Int.mul_comm]; exact he⟩ (h e e2 (by omega))
  have := Int.mul_le_mul hd hee hp (by omega)
  omega
end SM
namespace SM
end SM
namespace SM
end SM
namespace SM
abbrev T3 := Int × Int × Int
inductive Down (n w0 a0 lo0 : Int) : List T3 → Int → Int → Int → Prop
  | top : Down n w0 a0 lo0 [] w0 a0 lo0
  | go {lv : List T3} {w a lo : Int} : Down n w0 a0 lo0 lv w a lo → 0 < a → ¬ a * cdiv lo a ≤ lo + n - 1 → Down n w0 a0 lo0 (lv ++ [(w, a, lo)]) a (w % a) ((-(lo + n - 1)) % a)
theorem Down.lvl {n w0 a0 lo0 : Int} {lv : List T3} {w a lo : Int} (d : Down n w0 a0 lo0 lv w a lo) (L : Lvl w0 a0 lo0 n) : Lvl w a lo n ∧ w ≤ w0 ∧ ∀ t ∈ lv, 0 < t.2.1 ∧ t.2.1 < t.1 ∧ t.1 ≤ w0 ∧ 1 ≤ t.2.2 ∧ t.2.2 ≤ w0 := by
  induction d with
  | top => exact ⟨L, Int.le_refl _, fun t ht => nomatch ht⟩
  | @go lv w a lo d h h2 ih =>
    obtain ⟨l, b, c⟩ := ih
    refine ⟨l.down h h2, by have := l.aw; omega, fun t ht => ?_⟩
    rcases List.mem_append.mp ht with z | z
    · exact c t z
    · have : t = (w, a, lo) := by simpa using z
      subst this
      have := l.aw; have := l.l1; have := l.l2; have := l.n1
      exact ⟨h, by assumption, b, by assumption, by show lo ≤ w0; omega⟩
theorem half_mod {w a : Int} (h : 0 < a) (hw : a < w) : 2 * (a * (w % a)) ≤ w * a := by
  have e := Int.mul_ediv_add_emod w a
  have r1 := Int.emod_lt_of_pos w h
  have r0 := Int.emod_nonneg w (show a ≠ 0 by omega)
  have q1 : 1 ≤ w / a := (Int.le_ediv_iff_mul_le h).mpr (by omega)
  have := Int.mul_le_mul_of_nonneg_left q1 (Int.le_of_lt h)
  have e2 : 2 * (w % a) ≤ w := by omega
  have := Int.mul_le_mul_of_nonneg_left e2 (Int.le_of_lt h)
  rw [Int.mul_comm w a, ← Int.mul_assoc, Int.mul_comm 2 a, Int.mul_assoc]
  exact this
theorem Down.len {n w0 a0 lo0 : Int} {lv : List T3} {w a lo : Int} (d : Down n w0 a0 lo0 lv w a lo) (L : Lvl w0 a0 lo0 n) : 2 ^ lv.length * (w * a) ≤ w0 * a0 := by
  induction d with
  | top => simp
  | @go lv w a lo d h h2 ih =>
    obtain ⟨l, b, _⟩ := d.lvl L
    have m := half_mod h l.aw
    have p : (0 : Int) ≤ 2 ^ lv.length := Int.pow_nonneg (by decide)
    have := Int.mul_le_mul_of_nonneg_left m p
    rw [List.length_append, List.length_singleton, Int.pow_succ, Int.mul_assoc]
    omega
end SM
namespace L2
open PySem PySem.Spec PyProof.Rows SM
section
variable {K : PySem.W.Frag} {H : Hp} {Q : VK} {a b : Addr} {xs ys : List V} {ws vs : List T3}
end
end L2
namespace L2
open PySem PySem.Spec PyProof.Rows
def Itp (n : Nat) (ok : Hp → Prop) (f : Nat → Hp → V → V → Prop) : It :=
  ⟨fun i H => i < n ∧ ok H, fun i H x H' => ∃ T u v, H T = none ∧ x = .ref T ∧ H' = upd H T (.tup [u, v]) ∧ f i H u v, fun i H => i = n ∧ ok H⟩
def okZ (K : PySem.W.Frag) (a b : Addr) (n : Nat) (H : Hp) : Prop := ∃ xs ys, SqL K H a xs ∧ SqL K H b ys ∧ min xs.length ys.length = n
def Itz (K : PySem.W.Frag) (a b : Addr) (n : Nat) : It := Itp n (okZ K a b n) fun i H u v => (∀ xs, SqL K H a xs → xs[i]? = some u) ∧ ∀ ys, SqL K H b ys → ys[i]? = some v
def iZip (K : PySem.W.Frag) (ta tb : TE) : TI := fun σ H R => ta σ H fun x H1 => tb σ H1 fun y H2 => ∃ a b xs ys, x = .ref a ∧ y = .ref b ∧ SqL K H2 a xs ∧ SqL K H2 b ys ∧ R (Itz K a b (min xs.length ys.length)) H2
section
variable {X : Cx} {es : List Expr} {k : Nat} {tpos : Pos}
end
theorem iZip_ap {K : PySem.W.Frag} {ta tb : TE} {σ : St} {H : Hp} {R : It → Hp → Prop} : iZip K ta tb σ H R = ta σ H fun x H1 => tb σ H1 fun y H2 => ∃ a b xs ys, x = .ref a ∧ y = .ref b ∧ SqL K H2 a xs ∧ SqL K H2 b ys ∧ R (Itz K a b (min xs.length ys.length)) H2 := rfl
def okE (K : PySem.W.Frag) (a : Addr) (n : Nat) (H : Hp) : Prop := ∃ xs, SqL K H a xs ∧ xs.length = n
def Ite (K : PySem.W.Frag) (a : Addr) (n : Nat) : It := Itp n (okE K a n) fun i H u v => u = .int i ∧ ∀ xs, SqL K H a xs → xs[i]? = some v
def iEnum (K : PySem.W.Frag) (ta : TE) : TI := fun σ H R => ta σ H fun x H1 => ∃ a xs, x = .ref a ∧ SqL K H1 a xs ∧ R (Ite K a xs.length) H1
section
variable {X : Cx} {es : List Expr} {k : Nat} {tpos : Pos}
end
theorem iEnum_ap {K : PySem.W.Frag} {ta : TE} {σ : St} {H : Hp} {R : It → Hp → Prop} : iEnum K ta σ H R = ta σ H fun x H1 => ∃ a xs, x = .ref a ∧ SqL K H1 a xs ∧ R (Ite K a xs.length) H1 := rfl
end L2
namespace L2
open PySem PySem.Spec PyProof.Rows
def Its (lo c : Int) (n : Nat) : It := ⟨fun i _ => i < n, fun i H x H' => H' = H ∧ x = .int (lo + i * c), fun i _ => n ≤ i⟩
section
variable {X : Cx} {tg : Expr}
def iRngA (ta : TA) : TI := fun σ H R => ta σ H fun vs H1 => ∃ i j : Int, vs = [.int i, .int j] ∧ R (Its i 1 (j - i).toNat) H1
def iRng3 (ta : TA) : TI := fun σ H R => ta σ H fun vs H1 => ∃ (i j c : Int) (n : Nat), vs = [.int i, .int j, .int c] ∧ 0 < c ∧ c < 1000000 ∧ (n : Int) = Builtin.Range.rangeSize i j c ∧ R (Its i c n) H1
end
section
variable {D : Ends} {σ : St} {H : Hp} {Q : VK}
theorem iRngA_ap {ta : TA} {R : It → Hp → Prop} : iRngA ta σ H R = ta σ H fun vs H1 => ∃ i j : Int, vs = [.int i, .int j] ∧ R (Its i 1 (j - i).toNat) H1 := rfl
theorem iRng3_ap {ta : TA} {R : It → Hp → Prop} : iRng3 ta σ H R = ta σ H fun vs H1 => ∃ (i j c : Int) (n : Nat), vs = [.int i, .int j, .int c] ∧ 0 < c ∧ c < 1000000 ∧ (n : Int) = Builtin.Range.rangeSize i j c ∧ R (Its i c n) H1 := rfl
end
end L2
namespace L2
open PySem PySem.Spec PyProof.Rows
def CI (mg : Str → Option Value) (x : Str) (n : Int) : Prop := ∃ t, mg x = some (.int n t)
theorem ci_mk {K : PySem.W.Frag} {h : Heap} {mg : Str → Option Value} {x : Str} {n : Int} {t : Tok} (X : K.In h) (G : h.Ns mainGlobals mg) (a : PySem.W.nsIn K mainGlobals x = some (some (.int n t))) : CI mg x n := ⟨t, PySem.W.mg_of X G a⟩
theorem pe_ci {X : Cx} {x : Str} {n : Int} {pos : Pos} (hg : Gl X x) (h : CI X.mg x n) (hd : (x == ("__debug__" : Str)) = false := by decide) : PE X (.Name x pos) (tC (.int n)) := by
  obtain ⟨t, e⟩ := h
  exact pe_glob hg e ⟨t, rfl⟩ hd
end L2
namespace SM
end SM
namespace L2
open PySem PySem.Spec PyProof.Rows SM
inductive Pap where
  | inn (k : Int)
  | par (b : Int) (ps : List Pap)
mutual
def Pap.dep : Pap → Nat
  | .inn _ => 0
  | .par _ ps => Pap.deps ps + 1
def Pap.deps : List Pap → Nat
  | [] => 0
  | p :: ps => max p.dep (Pap.deps ps)
end
theorem Pap.dep_mem : ∀ {ps : List Pap} {p : Pap}, p ∈ ps → p.dep ≤ Pap.deps ps
  | q :: ps, p, h => by
    simp only [Pap.deps]
    rcases List.mem_cons.mp h with e | e
    · rw [e]; omega
    · have := Pap.dep_mem e; omega
-- a paper that lies in the heap; N: what is known of the places of its lists
mutual
inductive PapIn (K : PySem.W.Frag) (N : Addr → Prop) (H : Hp) : V → Pap → Prop where
  | inn {a : Addr} {k : Int} : H a = some (.tup [.str "in", .int k]) → PapIn K N H (.ref a) (.inn k)
  | par {a l : Addr} {b : Int} {xs : List V} {ps : List Pap} : H a = some (.tup [.str "parted", .int b, .ref l]) → H l = some (.lst xs) → N l → xs.length < 2 ^ 60 → PapsIn K N H xs ps → PapIn K N H (.ref a) (.par b ps)
inductive PapsIn (K : PySem.W.Frag) (N : Addr → Prop) (H : Hp) : List V → List Pap → Prop where
  | nil : PapsIn K N H [] []
  | cons {x : V} {xs : List V} {p : Pap} {ps : List Pap} : PapIn K N H x p → PapsIn K N H xs ps → PapsIn K N H (x :: xs) (p :: ps)
end
section
variable {K : PySem.W.Frag} {N N' : Addr → Prop} {H H' : Hp}
mutual
theorem PapIn.mono (g : Same H H') : ∀ {v : V} {p : Pap}, PapIn K N H v p → PapIn K N H' v p
  | _, _, .inn h => .inn (g _ _ h)
  | _, _, .par h hl n hz hs => .par (g _ _ h) (g _ _ hl) n hz (PapsIn.mono g hs)
theorem PapsIn.mono (g : Same H H') : ∀ {vs : List V} {ps : List Pap}, PapsIn K N H vs ps → PapsIn K N H' vs ps
  | _, _, .nil => .nil
  | _, _, .cons h hs => .cons (PapIn.mono g h) (PapsIn.mono g hs)
end
mutual
theorem PapIn.imp (f : ∀ l, N l → N' l) : ∀ {v : V} {p : Pap}, PapIn K N H v p → PapIn K N' H v p
  | _, _, .inn h => .inn h
  | _, _, .par h hl n hz hs => .par h hl (f _ n) hz (PapsIn.imp f hs)
theorem PapsIn.imp (f : ∀ l, N l → N' l) : ∀ {vs : List V} {ps : List Pap}, PapsIn K N H vs ps → PapsIn K N' H vs ps
  | _, _, .nil => .nil
  | _, _, .cons h hs => .cons (PapIn.imp f h) (PapsIn.imp f hs)
end
theorem upd_tup {D b : Addr} {zs ys : List V} {o : HO} (hD : H D = some (.lst zs)) (h : H b = some (.tup ys)) : upd H D o b = some (.tup ys) := by
  rw [upd_ne (ne_of h hD (by intro z; cases z))]
  exact h
mutual
theorem PapIn.write {D : Addr} {zs : List V} {o : HO} (hD : H D = some (.lst zs)) (f : ∀ l, N l → l ≠ D) : ∀ {v : V} {p : Pap}, PapIn K N H v p → PapIn K N (upd H D o) v p
  | _, _, .inn h => .inn (upd_tup hD h)
  | _, _, .par h hl n hz hs => .par (upd_tup hD h) (by rw [upd_ne (f _ n)]; exact hl) n hz (PapsIn.write hD f hs)
theorem PapsIn.write {D : Addr} {zs : List V} {o : HO} (hD : H D = some (.lst zs)) (f : ∀ l, N l → l ≠ D) : ∀ {vs : List V} {ps : List Pap}, PapsIn K N H vs ps → PapsIn K N (upd H D o) vs ps
  | _, _, .nil => .nil
  | _, _, .cons h hs => .cons (PapIn.write hD f h) (PapsIn.write hD f hs)
end
theorem PapsIn.len : ∀ {xs : List V} {ps : List Pap}, PapsIn K N H xs ps → xs.length = ps.length
  | _, _, .nil => rfl
  | _, _, .cons _ h => by simp [h.len]
theorem PapsIn.at : ∀ {xs : List V} {ps : List Pap}, PapsIn K N H xs ps → ∀ {i : Nat} {x : V}, xs[i]? = some x → ∃ p, ps[i]? = some p ∧ PapIn K N H x p
  | _, _, .nil, i, x, e => by simp at e
  | _, _, .cons h hs, 0, x, e => by cases e; exact ⟨_, rfl, h⟩
  | _, _, .cons h hs, i + 1, x, e => by simpa using hs.at (i := i) (by simpa using e)
theorem PapsIn.append : ∀ {xs ys : List V} {ps qs : List Pap}, PapsIn K N H xs ps → PapsIn K N H ys qs → PapsIn K N H (xs ++ ys) (ps ++ qs)
  | _, _, _, _, .nil, k => k
  | _, _, _, _, .cons h hs, k => .cons h (hs.append k)
theorem PapsIn.snoc {xs : List V} {ps : List Pap} {x : V} {p : Pap} (h : PapsIn K N H xs ps) (k : PapIn K N H x p) : PapsIn K N H (xs ++ [x]) (ps ++ [p]) := h.append (.cons k .nil)
end
abbrev anyL : Addr → Prop := fun _ => True
theorem PapIn.any {K : PySem.W.Frag} {N : Addr → Prop} {H : Hp} {v : V} {p : Pap} (h : PapIn K N H v p) : PapIn K anyL H v p := h.imp fun _ _ => trivial
mutual
def Pap.kn : Pap → Nat
  | .inn _ => 1
  | .par _ ps => Pap.kns ps + 1
def Pap.kns : List Pap → Nat
  | [] => 0
  | p :: ps => p.kn + Pap.kns ps
end
mutual
def Pap.nm : Pap → List Int
  | .inn k => [k]
  | .par _ ps => Pap.nms ps
def Pap.nms : List Pap → List Int
  | [] => []
  | p :: ps => p.nm ++ Pap.nms ps
end
section
variable {K : PySem.W.Frag} {N : Addr → Prop} {H H' : Hp} {X : Addr} {zs : List V}
end
end L2
namespace L2
open PySem PySem.Spec PyProof.Rows
section
variable {X : Cx}
end
theorem tBM0_ap {K : PySem.W.Frag} {T : String} {r : V → List V → Hp → VK → Prop} {to : TE} {σ : St} {H : Hp} {Q : VK} : tBM0 K T r to σ H Q = to σ H fun x H1 => tyV K T x H1 ∧ r x [] H1 Q := rfl
end L2
namespace L2
open PySem PySem.Spec PyProof.Rows SM
section
variable {K : PySem.W.Frag} {N : Addr → Prop} {H H' : Hp} {X Y : Addr} {xs ys : List V}
end
end L2
namespace L2
open PySem PySem.Spec PyProof.Rows SM
section
variable {K : PySem.W.Frag} {N : Addr → Prop} {H : Hp}
theorem PapsIn.take : ∀ {xs : List V} {ps : List Pap} (n : Nat), PapsIn K N H xs ps → PapsIn K N H (xs.take n) (ps.take n)
  | _, _, 0, h => by simp; exact .nil
  | _, _, n + 1, .nil => by simp; exact .nil
  | _, _, n + 1, .cons h hs => by simp only [List.take_succ_cons]; exact .cons h (hs.take n)
theorem PapsIn.drop : ∀ {xs : List V} {ps : List Pap} (n : Nat), PapsIn K N H xs ps → PapsIn K N H (xs.drop n) (ps.drop n)
  | _, _, 0, h => h
  | _, _, n + 1, .nil => by simp; exact .nil
  | _, _, n + 1, .cons h hs => by simp only [List.drop_succ_cons]; exact hs.drop n
def cutP (ps : List Pap) (lo hi : Option Int) : List Pap := (ps.drop (HT.sIx ps.length 0 lo)).take (HT.sIx ps.length ps.length hi - HT.sIx ps.length 0 lo)
theorem PapsIn.cut {xs : List V} {ps : List Pap} (h : PapsIn K N H xs ps) (lo hi : Option Int) : PapsIn K N H (cutV xs lo hi) (cutP ps lo hi) := by
  unfold cutV cutP
  rw [h.len]
  exact (h.drop _).take _
end
mutual
def Pap.pd : Pap → PyData
  | .inn k => .tuple [.str "in", .int k]
  | .par b ps => .tuple [.str "parted", .int b, .list (Pap.pds ps)]
def Pap.pds : List Pap → List PyData
  | [] => []
  | p :: ps => p.pd :: Pap.pds ps
end
mutual
theorem PapIn.dd {K : PySem.W.Frag} {N : Addr → Prop} {H : Hp} : ∀ {v : V} {p : Pap}, PapIn K N H v p → DD K H v p.pd
  | _, _, .inn h => by
    simp only [Pap.pd]
    exact .tup (SqT.of h) (.cons (.str _) (.cons (.int _) .nil))
  | _, _, .par h hl _ _ hs => by
    simp only [Pap.pd]
    exact .tup (SqT.of h) (.cons (.str _) (.cons (.int _) (.cons (.lst (SqL.of hl) (PapsIn.dds hs)) .nil)))
theorem PapsIn.dds {K : PySem.W.Frag} {N : Addr → Prop} {H : Hp} : ∀ {vs : List V} {ps : List Pap}, PapsIn K N H vs ps → DDs K H vs (Pap.pds ps)
  | _, _, .nil => by simp only [Pap.pds]; exact .nil
  | _, _, .cons h hs => by simp only [Pap.pds]; exact .cons (PapIn.dd h) (PapsIn.dds hs)
end
end L2
namespace L2
open PySem PySem.Spec PyProof.Rows

theorem find_eraseIdx {α : Type} {p : α → Bool} : ∀ {l : List α} {i : Nat}, (∀ a, l[i]? = some a → p a = false) → (l.eraseIdx i).find? p = l.find? p
  | [], _, _ => by simp
  | a :: l, 0, h => by
    have := h a rfl
    simp [List.eraseIdx, List.find?, this]
  | a :: l, i + 1, h => by
    have := find_eraseIdx (l := l) (i := i) (p := p) fun b e => h b (by simpa using e)
    simp only [List.eraseIdx, List.find?, this]

theorem ObjOk.there {P : Program} {w : World} {H : Hp} {h : Heap} {a : Addr} : ∀ {o : HO}, ObjOk P w H h a o → ∃ u, h.get? a = some u := fun {o} x => by
  induction o with
  | lst xs => obtain ⟨_, _, _, _, e⟩ := x; exact ⟨_, e⟩
  | tup xs => obtain ⟨_, _, _, p⟩ := x; obtain ⟨u, hu, _⟩ := p; exact ⟨u, hu⟩
  | dK kvs => obtain ⟨_, _, _, _, o, _, _, e, _⟩ := x; exact ⟨_, e⟩
  | dT kvs => obtain ⟨_, _, _, _, o, _, _, e, _⟩ := x; exact ⟨_, e⟩
  | set S n => obtain ⟨o, _, _, _, e, _⟩ := x; exact ⟨_, e⟩
  | ins C dx fs => obtain ⟨_, _, _, e, _⟩ := x; exact ⟨_, e⟩
  | own y => obtain ⟨_, e⟩ := x; exact ⟨_, e⟩
  | xd fs => obtain ⟨_, ⟨_, _, _, e, _⟩, _⟩ := x; exact ⟨_, e⟩
  | rng lo hi => obtain ⟨_, _, _, e⟩ := x; exact ⟨_, e⟩
  | frz o u _ => exact ⟨_, x.1⟩
  | tbl ps => exact ⟨_, x⟩
  | met f y => exact ⟨_, x⟩
  | ext φ => exact x.2.1

structure Fly (h₀ : Heap) (H : Hp) (h : Heap) (e : Addr) (cls : Value) : Prop where
  new : h₀.get? e = none
  free : H e = none
  obj : ∃ oe vs T oT ts a0, h.get? e = some oe ∧ (oe.cls = cls ∧ vs[0]? = some a0) ∧ oe.data = .fields vs ∧ vs[1]? = some (.ref T) ∧ T ≠ e ∧ h.get? T = some oT ∧ oT.data = .fields ts ∧ ts[3]? = some .none ∧
    h₀.get? T = none ∧ H T = none

def CXx (P : Program) (w : World) : CXT := fun outer H s E e s' =>
  ∃ a cls H', e = .ref a ∧ s'.os = s.os ∧ AllBare s'.gens ∧ Un (frs outer) [] H H' s.heap s'.heap ∧ HOk P w H' s'.heap ∧ Fly s.heap H' s'.heap a cls ∧ E cls (some a) H'

theorem HOk.but {P : Program} {w : World} {H : Hp} {h h' : Heap} (hok : HOk P w H h) (as : List Addr) (hn : ∀ a ∈ as, H a = none) (k : ∀ b o, b ∉ as → h.get? b = some o → h'.get? b = some o) : HOk P w H h' := fun b u e => by
  refine (hok b u e).stay (fun c v hc q => k c v (fun z => ?_) q) (fun _ q => q) fun _ _ q => q
  rcases hc with rfl | hc
  · rw [hn _ z] at e; cases e
  · rw [hn _ z] at hc; cases hc

section
variable {P : Program} {w : World} {K : PySem.W.Frag} {mg : Str → Option Value} {base : Heap} {N : List Str} {qual : Str} {scope : Scope} {f : Addr} {cd : Value} {A : Around} {outer : List Env} {s : Shared} {H H1 : Hp} {E : XK}
  {pins : List (Addr × Obj)} {σ : St} {s1 : Shared} {e : Addr} {cls : Value}

theorem left_fly {B : Heap} {a0 : Value} {h h' : Heap} {as : List Addr} {stk : List Env} (hB : B = PySem.W.hideAll h (frs stk ++ as)) (has : ∀ a ∈ as, s.heap.get? a = none ∧ H1 a = none) (hea : e ∈ as)
    (hfs : ∀ b ∈ frs stk, H1 b = none) (hsub : ∀ b ∈ frs outer, b ∈ frs stk) (hnew : ∀ b ∈ frs stk, b ∉ frs outer → s.heap.get? b = none)
    (u : Un (frs outer) [] H H1 s.heap h) (hok : HOk P w H1 h) (L : Heap.LeftW B stk e cls a0 h h') (hF : h.FunFrames base stk) : Un (frs outer) [] H H1 s.heap h' ∧ HOk P w H1 h' ∧ Fly s.heap H1 h' e cls := by
  subst hB
  obtain ⟨k1, k2, ⟨oe, vs, T, oT, ts, he, hc, hd, h1, hnT, hTe, hT, hdT, h3⟩, k4⟩ := L
  have keep : ∀ b o, b ∉ frs stk ++ as → h.get? b = some o → h'.get? b = some o := fun b o hb q => k1 b o (PySem.W.hideAll_get _ q hb)
  have hall : ∀ a ∈ frs stk ++ as, H1 a = none := fun a ha => (List.mem_append.mp ha).elim (hfs a) fun z => (has a z).2
  have newAs : ∀ {b : Addr} {o : Obj}, s.heap.get? b = some o → b ∉ as := fun {b o} q z => by rw [(has b z).1] at q; cases q
  have hTf : T ∉ frs stk := fun z => by
    obtain ⟨_, o, ho, hx⟩ := k2.mem z
    rw [hT] at ho; cases ho; exact hx _ hdT
  have out : ∀ o, h.get? T = some o → T ∈ as := fun o q => by
    by_cases z : T ∈ frs stk ++ as
    · exact (List.mem_append.mp z).elim (fun y => absurd y hTf) id
    · have := PySem.W.hideAll_get (h := h) _ q z
      rw [hnT] at this; cases this
  have slot : ∀ b o, h.get? b = some o → b ∈ frs stk → ∃ sl, h'.get? b = some { o with slots := sl } := fun b o q hb => by
    obtain ⟨_, o', ho', hx⟩ := hF.mem hb
    rw [q] at ho'; cases ho'
    exact k4 b o q hx
  refine ⟨⟨fun b o q n hb hx => ?_, fun b o q n hb hx => ?_, u.free, fun b o q hx => ?_, u.tups, u.frzs, u.tbls⟩, hok.but _ hall keep, ⟨(has e hea).1, (has e hea).2, oe, vs, T, oT, ts, a0, he, hc, hd, h1, hTe, hT, hdT, h3, ?_, ?_⟩⟩
  · refine keep b o (fun z => (List.mem_append.mp z).elim (fun y => ?_) (newAs q)) (u.keep b o q n hb hx)
    by_cases hb' : b ∈ frs outer
    · exact hb hb'
    · rw [hnew b y hb'] at q; cases q
  · obtain ⟨sl, e1⟩ := u.slot b o q n hb hx
    obtain ⟨sl', e2⟩ := slot b _ e1 (hsub b hb)
    exact ⟨sl', e2⟩
  · obtain ⟨o', e1⟩ := u.there b o q hx
    by_cases z : b ∈ frs stk
    · obtain ⟨sl, e2⟩ := slot b _ e1 z
      exact ⟨_, e2⟩
    · exact ⟨o', keep b o' (fun y => (List.mem_append.mp y).elim z (newAs q)) e1⟩
  · cases q : s.heap.get? T with
    | none => rfl
    | some o =>
      obtain ⟨o', e1⟩ := u.there T o q (by simp)
      exact absurd (out o' e1) (newAs q)
  · cases q : H1 T with
    | none => rfl
    | some o =>
      obtain ⟨o', e1⟩ := ObjOk.there (hok T o q)
      rw [(has T (out o' e1)).2] at q; cases q

theorem thrown_made {h' : Heap} {vs : List Value} (I : Inv (cxOf (CXx P w) P w K mg base N qual scope f cd A outer s H E) pins σ H1 s1) (hx : Heap.MadeExcOf s1.heap h' e cls vs) (q : E cls (some e) H1) :
    (cxOf (CXx P w) P w K mg base N qual scope f cd A outer s H E).xe (.ref e) { s1 with heap := h' } := by
  have hok : HOk P w H1 h' := I.hok.kept hx.keeps
  have he1 : H1 e = none := by
    cases z : H1 e with
    | none => rfl
    | some o =>
      obtain ⟨o', e1⟩ := ObjOk.there (I.hok e o z)
      rw [hx.new] at e1; cases e1
  have hes : s.heap.get? e = none := by
    cases z : s.heap.get? e with
    | none => rfl
    | some o =>
      obtain ⟨o', e1⟩ := I.base.there e o z (List.not_mem_nil)
      rw [hx.new] at e1; cases e1
  have hu : Un (frs outer) [] H H1 s.heap h' := Un.trans I.base (Un.kept hx.keeps)
  have hF : h'.FunFrames base (envOfC qual scope s.heap.objs.size f cd :: outer) := Heap.FunFrames.of_keeps (fun b o z _ => ⟨o, hx.keeps b o z, rfl⟩) I.stack
  have hnw : ∀ b ∈ frs (envOfC qual scope s.heap.objs.size f cd :: outer), b ∉ frs outer → s.heap.get? b = none := fun b hb hn => by
    rcases List.mem_cons.mp hb with rfl | hb
    · exact Heap.get?_none_of_le (Nat.le_refl _)
    · exact absurd hb hn
  obtain ⟨t, he, _, _⟩ := hx.there
  refine wpAny_leaving_firstW (base := PySem.W.hideAll h' (frs (envOfC qual scope s.heap.objs.size f cd :: outer) ++ [e])) (outer := outer) (L := s.heap.objs.size) (a0 := .ref t) I.ok.frames
    (PySem.W.funFrames_hide hF fun env z a ha => List.mem_append_left _ (List.mem_filterMap.mpr ⟨env, z, ha⟩)) rfl he (fun b o z => PySem.W.of_hideAll _ z) (PySem.W.hideAll_none _ (by simp)) rfl rfl rfl fun h2 L => ?_
  obtain ⟨x1, x2, x3⟩ := left_fly (P := P) (w := w) (base := base) (outer := outer) (s := s) (H := H) (H1 := H1) (as := [e]) rfl (fun a ha => by rw [List.mem_singleton.mp ha]; exact ⟨hes, he1⟩) (by simp) I.stkFree (fun b hb => List.mem_cons_of_mem _ hb) hnw hu hok L hF
  exact ⟨e, cls, H1, rfl, I.os, I.bare, x1, x2, x3, q⟩

theorem thrown_on (I : Inv (cxOf (CXx P w) P w K mg base N qual scope f cd A outer s H E) pins σ H1 s1) (fl : Fly s.heap H1 s1.heap e cls) (q : E cls (some e) H1) :
    (cxOf (CXx P w) P w K mg base N qual scope f cd A outer s H E).xe (.ref e) s1 := by
  obtain ⟨oe, vs, T, oT, ts, a0, he, hc, hd, h1, hTe, hT, hdT, h3, hsT, hHT⟩ := fl.obj
  have hF : s1.heap.FunFrames base (envOfC qual scope s.heap.objs.size f cd :: outer) := I.stack
  have hnw : ∀ b ∈ frs (envOfC qual scope s.heap.objs.size f cd :: outer), b ∉ frs outer → s.heap.get? b = none := fun b hb hn => by
    rcases List.mem_cons.mp hb with rfl | hb
    · exact Heap.get?_none_of_le (Nat.le_refl _)
    · exact absurd hb hn
  have has : ∀ a ∈ [e, T], s.heap.get? a = none ∧ H1 a = none := fun a ha => by
    rcases List.mem_cons.mp ha with rfl | ha
    · exact ⟨fl.new, fl.free⟩
    · rw [List.mem_singleton.mp ha]; exact ⟨hsT, hHT⟩
  refine wpAny_leaving_nextW (base := PySem.W.hideAll s1.heap (frs (envOfC qual scope s.heap.objs.size f cd :: outer) ++ [e, T])) (outer := outer) (L := s.heap.objs.size) (cls := cls) (a0 := a0) I.ok.frames
    (PySem.W.funFrames_hide hF fun env z a ha => List.mem_append_left _ (List.mem_filterMap.mpr ⟨env, z, ha⟩)) rfl ⟨oe, vs, T, oT, ts, he, hc, hd, h1, PySem.W.hideAll_none _ (by simp), hTe, hT, hdT, h3⟩
    (fun b o z => PySem.W.of_hideAll _ z) (PySem.W.hideAll_none _ (by simp)) fun h2 L => ?_
  obtain ⟨x1, x2, x3⟩ := left_fly (P := P) (w := w) (base := base) (outer := outer) (s := s) (H := H) (H1 := H1) (as := [e, T]) rfl has (by simp) I.stkFree (fun b hb => List.mem_cons_of_mem _ hb) hnw I.base I.hok L hF
  exact ⟨e, cls, H1, rfl, I.os, I.bare, x1, x2, x3, q⟩
end

theorem Inv.afterX {X : Cx} {pins : List (Addr × Obj)} {σ : St} {H : Hp} {s s' : Shared} {E : XK} {e : Value} (I : Inv X pins σ H s) (h : CXx X.prog X.w X.stack H s E e s') :
    ∃ a cls H', e = .ref a ∧ Inv X pins σ H' s' ∧ Fly s.heap H' s'.heap a cls ∧ E cls (some a) H' := by
  obtain ⟨a, cls, H', rfl, os, bare, un, hok, fl, q⟩ := h
  exact ⟨a, cls, H', rfl, I.call' (ch := []) os un hok bare (fun b z => absurd z (by simp)), fl, q⟩
theorem Fly.old {h₀ h1 h : Heap} {H : Hp} {e : Addr} {cls : Value} (x : Fly h1 H h e cls) (k : ∀ b o, h₀.get? b = some o → ∃ o', h1.get? b = some o') : Fly h₀ H h e cls := by
  have none : ∀ b, h1.get? b = none → h₀.get? b = none := fun b z => by
    cases q : h₀.get? b with
    | none => rfl
    | some o => obtain ⟨o', e1⟩ := k b o q; rw [z] at e1; cases e1
  obtain ⟨oe, vs, T, oT, ts, a0, he, hc, hd, h1, hTe, hT, hdT, h3, hsT, hHT⟩ := x.obj
  exact ⟨none _ x.new, x.free, oe, vs, T, oT, ts, a0, he, hc, hd, h1, hTe, hT, hdT, h3, none _ hsT, hHT⟩

theorem passX {P : Program} {w : World} {K : PySem.W.Frag} {mg : Str → Option Value} {base : Heap} {N : List Str} {qual : Str} {scope : Scope} {f : Addr} {cd : Value} {A : Around} {outer : List Env} {s : Shared} {H : Hp} {E : XK} :
    Passes (CXx P w) (cxOf (CXx P w) P w K mg base N qual scope f cd A outer s H E) E := fun pins σ H1 s1 e s' I h => by
  obtain ⟨a, cls, H', rfl, I', fl, q⟩ := Inv.afterX I h
  exact thrown_on I' (fl.old fun b o z => I.base.there b o z List.not_mem_nil) q
end L2
namespace L2
open PySem PySem.Spec PyProof.Rows

abbrev VE : List Value := [.type "ValueError", .type "Exception", .type "BaseException", .type "object"]
structure OX (K : PySem.W.Frag) (mg : Str → Option Value) (x : Str) (C : Addr) (bm : List Value) : Prop where
  bound : mg x = some (.ref C)
  obj : ∃ N nm q bs hdct sn sub ab col dd k0 k1 k2 k3 k5, K.lookup C = some (excClassObj nm q C N bs bm hdct sn sub ab col dd k0 k1 k2 k3 k5 "ValueError.__new__") ∧ PySem.W.nsOkIn K N = true ∧ PySem.W.nsIn K N "__init__" = some none
  tail : PySem.W.tailIn K VE bm = true
theorem ox_mk {K : PySem.W.Frag} {h : Heap} {mg : Str → Option Value} {x : Str} {C N : Addr} {nm q : Str} {bs bm : List Value} {hdct : Bool} {sn : List Str} {sub : List Value} {ab : Bool} {col : Option Bool} {dd : Option Addr} {k0 k1 k2 k3 k5 : Option Value}
    (X : K.In h) (G : h.Ns mainGlobals mg) (a : PySem.W.nsIn K mainGlobals x = some (some (.ref C))) (l : K.lookup C = some (excClassObj nm q C N bs bm hdct sn sub ab col dd k0 k1 k2 k3 k5 "ValueError.__new__"))
    (e : PySem.W.excIn K C VE "ValueError.__new__" = true) : OX K mg x C bm := by
  unfold PySem.W.excIn at e
  rw [l] at e
  simp only [Bool.and_eq_true, beq_iff_eq, Bool.not_eq_true'] at e
  obtain ⟨⟨⟨⟨⟨_, _⟩, _⟩, ht⟩, hok⟩, hni⟩ := e
  exact ⟨PySem.W.mg_of X G a, ⟨N, nm, q, bs, hdct, sn, sub, ab, col, dd, k0, k1, k2, k3, k5, l, hok, hni⟩, ht⟩

def Throws (X : Cx) (E : XK) : Prop := ∀ (pins : List (Addr × Obj)) (σ : St) (H : Hp) (s : Shared) (e : Addr) (cls : Value) (vs : List Value) (h' : Heap), Inv X pins σ H s → Heap.MadeExcOf s.heap h' e cls vs → E cls (some e) H → X.xe (.ref e) { s with heap := h' }
theorem throwX {P : Program} {w : World} {K : PySem.W.Frag} {mg : Str → Option Value} {base : Heap} {N : List Str} {qual : Str} {scope : Scope} {f : Addr} {cd : Value} {A : Around} {outer : List Env} {s : Shared} {H : Hp} {E : XK} :
    Throws (cxOf (CXx P w) P w K mg base N qual scope f cd A outer s H E) E := fun _ _ _ _ _ _ _ _ I hx q => thrown_made I hx q

def tRaise (C : Addr) (E : XK) (t : TA) : TS := fun _ σ H => t σ H fun vs H1 => vs.length ≤ 1000 ∧ ∀ a, H1 a = none → E (.ref C) (some a) H1
theorem ps_raise {X : Cx} {x : Str} {C : Addr} {bm : List Value} {np cpos pos : Pos} {e₀ : Expr} {rest : List Expr} {t : TA} {E : XK} (O : OX X.K X.mg x C bm) (hc : X.calm = true) (T : Throws X E) (ha : PA X (e₀ :: rest) t) (hg : Gl X x := by rfl)
    (hdb : (x == ("__debug__" : Str)) = false := by decide) (he : starEach (e₀ :: rest) X.env = (false, eval e₀ X.env) :: starEach rest X.env := by rfl) (hpl : (backTo cpos (starEach rest X.env)).any (·.1) = false := by rfl) :
    PS X (.Raise (some (.Call (.Name x np) (e₀ :: rest) [] cpos)) none pos) (tRaise C E t) := by
  intro pins s σ H D I h
  obtain ⟨N, nm, q, bs, hdct, sn, sub, ab, col, dd, k0, k1, k2, k3, k5, lk, hok, hni⟩ := O.obj
  have KB : X.K.In X.base := I.mod.kin
  refine wpAny_Raise_call_subT (C := C) (nm := nm) (q := q) (N := N) (bs := bs) (bm := bm) (hdct := hdct) (sn := sn) (sub := sub) (ab := ab) (col := col) (dd := dd) (k0 := k0) (k1 := k1) (k2 := k2) (k3 := k3) (k5 := k5)
    PySem.F.excBase_ValueError (mN := X.base.nsMap N) ((PySem.W.tail_of_in I.kIn O.tail).hasType rfl) (I.ok.hd hc) (by rw [he]; show (false || (backTo cpos (starEach rest X.env)).any (·.1)) = false; rw [hpl]; rfl) (PySem.W.nsMap_none_of_in KB hok hni) (ld_glob I hg O.bound ⟨rfl, ?_⟩ hdb)
  have h1 := ha cpos pins s σ H _ I h
  rw [he] at h1 ⊢
  refine Calls.evalArgs_plain (wpAny_mono h1 (fun us s₂ ⟨vs, H1, I1, r, hl, q⟩ => ⟨rfl, ?_, I1.kIn _ _ lk, ?_, PySem.W.tail_of_in I1.kIn O.tail, fun h' e hm => ?_⟩) fun _ _ y => y)
  · rw [← r.length]; exact Nat.le_of_lt (small1000 hl)
  · exact (Heap.Ns.of_isNs (PySem.W.isNs_of_in KB hok)).keeps I1.bk
  · refine T pins σ H1 s₂ e _ _ h' I1 hm (q e ?_)
    cases z : H1 e with
    | none => rfl
    | some o =>
      obtain ⟨o', e1⟩ := ObjOk.there (I1.hok e o z)
      rw [hm.new] at e1; cases e1

theorem own_cx {P : Program} {w : World} {CX : CXT} {K : PySem.W.Frag} {mg : Str → Option Value} {base : Heap} {N : List Str} {qual : Str} {scope : Scope} {f : Addr} {cd : Value} {A : Around} {outer : List Env} {s : Shared} {H : Hp} {E : XK} :
    PassesOwn (model P w) (cxOf CX P w K mg base N qual scope f cd A outer s H E).A (cxOf CX P w K mg base N qual scope f cd A outer s H E).env (cxOf CX P w K mg base N qual scope f cd A outer s H E).xe :=
  fun _ _ h => wpAny_leaving_again (SameStack.refl _) h

def HasX (P : Program) (w : World) (K : PySem.W.Frag) (mg : Str → Option Value) (base : Heap) (k : Nat) (x : Str) (ps : List Str) (sp : Sp) : Prop :=
  ∃ f fd, FnOk P w K mg base (CXx P w) k f fd ps sp ∧ (∀ us : List Value, us.length = ps.length → bindArgs fd ⟨us, []⟩ = pure (ps.zip us)) ∧ PySem.W.keepIn K (.ref f) = true ∧ mg x = some (.ref f)
theorem HasX.mono {P : Program} {w : World} {K : PySem.W.Frag} {mg : Str → Option Value} {base : Heap} {j k : Nat} {x : Str} {ps : List Str} {sp : Sp} (h : HasX P w K mg base j x ps sp) (hk : j ≤ k) : HasX P w K mg base k x ps sp :=
  let ⟨f, fd, F, b⟩ := h
  ⟨f, fd, F.mono hk, b⟩
theorem HasX.imp {P : Program} {w : World} {K : PySem.W.Frag} {mg : Str → Option Value} {base : Heap} {k : Nat} {x : Str} {ps : List Str} {sp sp' : Sp} (h : HasX P w K mg base k x ps sp) (i : ∀ vs H Q E, sp' vs H Q E → sp vs H Q E) : HasX P w K mg base k x ps sp' :=
  let ⟨f, fd, F, b⟩ := h
  ⟨f, fd, F.imp i, b⟩
theorem TF.hasX {P : Program} {w : World} {K : PySem.W.Frag} {mg : Str → Option Value} {base : Heap} {x : Str} {st : Stmt} {N ps : List Str} {k : Nat} {sp : Sp} (T : TF K mg x st) (S : FnScope N ps (defScope st))
    (hb : ∀ (kV doc pm : Value) (an : Option Addr) (cdv ct : Value) (us : List Value), us.length = ps.length → bindArgs (PySem.W.fnOf x x (defArgs st) (defBody st) (defScope st) .none kV doc pm an cdv ct) ⟨us, []⟩ = pure (ps.zip us))
    (len : ∀ vs H Q E, sp vs H Q E → vs.length = ps.length)
    (hbody : ∀ (f : Addr) (cdv : Value) (A : Around) (outer : List Env) (s : Shared) (H : Hp) (vs : List V) (Q : VK) (E : XK), Room k (A.deeper (envOfC x (defScope st) s.heap.objs.size f cdv)) → sp vs H Q E →
      ∃ t, PSs (cxOf (CXx P w) P w K mg base N x (defScope st) f cdv A outer s H E) (defBody st) t ∧ t { nx := fun _ H' => Q .non H', rt := Q } (start N vs) H) : HasX P w K mg base (k + 1) x ps sp := by
  obtain ⟨f, fd, F, m⟩ := T
  obtain ⟨oc, od, kV, doc, pm, an, cdv, ct, osl, rfl, lk, hcd⟩ := F.ex
  exact ⟨f, _, fn_of lk hcd S len fun A outer s H vs Q E hr hsp => hbody f cdv A outer s H vs Q E hr hsp, hb kV doc pm an cdv ct, F.kp, m⟩
theorem pe_defX {X : Cx} {k : Nat} {x : Str} {ps : List Str} {sp : Sp} {p pos : Pos} {e : Expr} {es : List Expr} {t : TA} {E : XK} (h : HasX X.prog X.w X.K X.mg X.base k x ps sp) (hr : Room k X.A) (hx : Passes (CXx X.prog X.w) X E) (ha : PA X (e :: es) t) (hg : Gl X x := by rfl)
    (hdb : (x == ("__debug__" : Str)) = false := by decide) (he : starEach (e :: es) X.env = (false, eval e X.env) :: starEach es X.env := by rfl) (hpl : (backTo pos (starEach es X.env)).any (·.1) = false := by rfl) :
    PE X (.Call (.Name x p) (e :: es) [] pos) (tCall sp [] E t) := by
  obtain ⟨f, fd, F, hb, hk, hm⟩ := h
  exact pe_call F hr hg hm hk (.all hb) .nil hx ha hdb he hpl
end L2
namespace L2
open PySem PySem.Spec PyProof.Rows

section
variable {X : Cx} {pins : List (Addr × Obj)} {σ : St} {H : Hp} {s : Shared}
def Ap (X : Cx) (pins : List (Addr × Obj)) (b : Addr) : Prop := X.s₀.heap.get? b = none ∧ b ≠ X.env.locals ∧ (∀ x c, X.env.cells.lookup x = some c → c ≠ b) ∧ b ∉ X.fs ∧ ∀ p ∈ X.pn ++ pins, p.1 ≠ b
theorem Inv.ap (I : Inv X pins σ H s) (hx : X.ex = []) {b : Addr} (hb : s.heap.get? b = none) : Ap X pins b := by
  have no : ∀ {c : Addr}, (∃ o, s.heap.get? c = some o) → c ≠ b := fun {c} ⟨o, e⟩ z => by rw [z, hb] at e; cases e
  refine ⟨?_, (no (let ⟨_, ⟨o, _, _, e, _⟩, _⟩ := I.loc; ⟨o, e⟩)).symm, fun x c e => no (let ⟨_, o, q, _⟩ := I.cell x c e; ⟨o, q⟩), fun z => no (let ⟨_, o, e, _⟩ := I.funs.mem z; ⟨o, e⟩) rfl, fun p hp => no ⟨_, (I.pin p hp).1⟩⟩
  cases q : X.s₀.heap.get? b with
  | none => rfl
  | some o => exact absurd rfl (no (I.base.there b o q (by rw [hx]; simp)))
theorem Inv.exs {as : List Addr} (I : Inv X pins σ H s) (has : ∀ a ∈ as, Ap X pins a) : Inv { X with ex := X.ex ++ as } pins σ H s := by
  have ok := I.ok
  refine ⟨⟨ok.mod, ok.kind, ok.glob, ok.blt, ok.above, ok.inj, ok.has, ok.cab, ok.hd, ok.frames, ok.stk, fun b hb => ?_, ok.bs, ok.bsz, fun b o e hb => ?_, fun b hb => ?_, ok.funs, ok.frf⟩, I.os, I.bare,
    I.base.mono (fun _ h => h) (fun b hb => List.mem_append_left _ hb), I.loc, I.cell, I.free, I.freeC, I.pin, I.hok, I.len⟩
  · exact (List.mem_append.mp hb).elim (ok.exf b) fun z => ⟨(has b z).2.1, (has b z).2.2.1⟩
  · refine (List.mem_append.mp hb).elim (ok.noex b o e) fun z => ?_
    have := (ok.bs b o e).1
    rw [(has b z).1] at this; cases this
  · exact (List.mem_append.mp hb).elim (ok.exfs b) fun z => (has b z).2.2.2.1
theorem Inv.unexs {as : List Addr} (I : Inv { X with ex := X.ex ++ as } pins σ H s) (ok : X.Ok) (has : ∀ a ∈ as, X.s₀.heap.get? a = none) : Inv X pins σ H s := by
  have ne : ∀ b o, X.s₀.heap.get? b = some o → b ∉ X.ex → b ∉ X.ex ++ as := fun b o e hx hb => (List.mem_append.mp hb).elim hx fun z => by rw [has b z] at e; cases e
  exact ⟨ok, I.os, I.bare, ⟨fun b o e n hb hx => I.base.keep b o e n hb (ne b o e hx), fun b o e n hb hx => I.base.slot b o e n hb (ne b o e hx), fun b o e n hx => I.base.free b o e n (ne b o e hx), fun b o e hx => I.base.there b o e (ne b o e hx),
    I.base.tups, I.base.frzs, I.base.tbls⟩, I.loc, I.cell, I.free, I.freeC, I.pin, I.hok, I.len⟩

theorem Inv.fly {as : List Addr} {h' : Heap} (I : Inv X pins σ H s) (has : ∀ a ∈ as, Ap X pins a ∧ H a = none)
    (keep : ∀ b o, b ∉ frs X.stack ++ as → s.heap.get? b = some o → h'.get? b = some o) (slot : ∀ b o, b ∈ frs X.stack → s.heap.get? b = some o → ∃ sl, h'.get? b = some { o with slots := sl }) : Inv X pins σ H { s with heap := h' } := by
  have u : Un (frs X.stack) as H H s.heap h' := ⟨fun b o q _ hb hx => keep b o (fun z => (List.mem_append.mp z).elim hb hx) q, fun b o q _ hb _ => slot b o hb q, fun _ _ _ n _ => n, fun b o q hx => by
      by_cases hb : b ∈ frs X.stack
      · obtain ⟨sl, e⟩ := slot b o hb q; exact ⟨_, e⟩
      · exact ⟨o, keep b o (fun z => (List.mem_append.mp z).elim hb hx) q⟩, fun _ _ e => e, fun _ _ _ e => e, fun _ ps e => ⟨#[], by rw [e]; simp⟩⟩
  have hok : HOk X.prog X.w H h' := I.hok.but _ (fun a z => (List.mem_append.mp z).elim (I.stkFree a) fun y => (has a y).2) keep
  have J := (I.exs fun a z => (has a z).1).call (g' := s.gens) (t' := s.toks) (d' := s.drawn) (ch := as) u hok I.bare fun b hb => ⟨.inl (List.mem_append_right _ hb), (has b hb).1.2.1, (has b hb).1.2.2.1, (has b hb).1.2.2.2.2⟩
  exact J.unexs I.ok fun a z => (has a z).1.1

def FlyAt (X : Cx) (pins : List (Addr × Obj)) (H : Hp) (h : Heap) (a : Addr) (cls : Value) : Prop :=
  ∃ oe vs T oT ts a0, h.get? a = some oe ∧ (oe.cls = cls ∧ vs[0]? = some a0) ∧ oe.data = .fields vs ∧ vs[1]? = some (.ref T) ∧ T ≠ a ∧ h.get? T = some oT ∧ oT.data = .fields ts ∧ ts[3]? = some .none ∧ ∀ b ∈ [a, T], Ap X pins b ∧ H b = none
def XE (X : Cx) (pins : List (Addr × Obj)) (σ : St) (E : XK) (e : Value) (s' : Shared) : Prop := ∃ a cls H', e = .ref a ∧ Inv X pins σ H' s' ∧ FlyAt X pins H' s'.heap a cls ∧ E cls (some a) H'
theorem Inv.afterXE {s' : Shared} {E : XK} {e : Value} (hx : X.ex = []) (I : Inv X pins σ H s) (h : CXx X.prog X.w X.stack H s E e s') : XE X pins σ E e s' := by
  obtain ⟨a, cls, H', rfl, I', fl, q⟩ := Inv.afterX I h
  obtain ⟨oe, vs, T, oT, ts, a0, he, hc, hd, hv1, hTe, hT, hdT, h3, hsT, hHT⟩ := fl.obj
  refine ⟨a, cls, H', rfl, I', ⟨oe, vs, T, oT, ts, a0, he, hc, hd, hv1, hTe, hT, hdT, h3, fun b hb => ?_⟩, q⟩
  rcases List.mem_cons.mp hb with rfl | hb
  · exact ⟨I.ap hx fl.new, fl.free⟩
  · rw [List.mem_singleton.mp hb]; exact ⟨I.ap hx hsT, hHT⟩

theorem FlyAt.held {a T : Addr} {cls a0 : Value} {h5 : Heap} (hx : X.ex = []) (I : Inv X pins σ H s) (has : ∀ b ∈ [a, T], Ap X pins b ∧ H b = none)
    (hfl : Heap.FlyingW (PySem.W.hideAll s.heap (frs X.stack ++ [a, T])) X.stack a cls a0 h5) (sm : s.heap.UpToSlots h5) : Inv X pins σ H { s with heap := h5 } ∧ FlyAt X pins H h5 a cls := by
  have keep : ∀ b o, b ∉ frs X.stack ++ [a, T] → s.heap.get? b = some o → h5.get? b = some o := fun b o hb q => hfl.1 b o (PySem.W.hideAll_get _ q hb)
  have slot : ∀ b o, b ∈ frs X.stack → s.heap.get? b = some o → ∃ sl, h5.get? b = some { o with slots := sl } := fun b o hb q => by
    obtain ⟨_, o', ho', hn⟩ := I.stack.mem hb
    rw [q] at ho'; cases ho'
    exact sm b o q hn
  have I' := I.fly (as := [a, T]) has keep slot
  obtain ⟨_, _, k2, oe, vs, T', oT, ts, he, hc, hd, hv1, hnT, hTe, hT, hdT, h3⟩ := hfl
  have hTf : T' ∉ frs X.stack := fun z => by
    obtain ⟨_, o, ho, hn⟩ := k2.mem z
    rw [hT] at ho; cases ho; exact hn _ hdT
  have hT' : Ap X pins T' ∧ H T' = none := by
    cases q : s.heap.get? T' with
    | none =>
      refine ⟨I.ap hx q, ?_⟩
      cases z : H T' with
      | none => rfl
      | some o =>
        obtain ⟨o', e⟩ := ObjOk.there (I.hok T' o z)
        rw [q] at e; cases e
    | some o =>
      refine has T' ?_
      by_cases z : T' ∈ frs X.stack ++ [a, T]
      · exact (List.mem_append.mp z).elim (fun y => absurd y hTf) id
      · have := PySem.W.hideAll_get (h := s.heap) _ q z
        rw [hnT] at this; cases this
  refine ⟨I', oe, vs, T', oT, ts, a0, he, hc, hd, hv1, hTe, hT, hdT, h3, fun b hb => ?_⟩
  rcases List.mem_cons.mp hb with rfl | hb
  · exact has _ (by simp)
  · rw [List.mem_singleton.mp hb]; exact hT'

theorem seen {M : Model} {a : Addr} {cls : Value} {Q : Shared → Prop} {A' : Around} {E1 E2 : Value → Shared → Prop} (hx : X.ex = []) (hst : X.stack = X.env :: X.outer) (hf : X.env.frame = some X.env.locals) (I : Inv X pins σ H s) (fl : FlyAt X pins H s.heap a cls)
    (h : ∀ h5, Inv X pins σ H { s with heap := h5 } → FlyAt X pins H h5 a cls → Q { s with heap := h5 }) :
    wpAny M X.A (noteFrame (.ref a) X.env) (fun _ s2 => wpAny M A' (setFlight (.ref a) none) (fun _ s3 => Q s3) E1 s2) E2 s := by
  obtain ⟨oe, vs, T, oT, ts, a0, he, hc, hd, hv1, hTe, hT, hdT, h3, has⟩ := fl
  have hFB : s.heap.FunFrames (PySem.W.hideAll s.heap (frs X.stack ++ [a, T])) X.stack := PySem.W.funFrames_hide I.stack fun env z b hb => List.mem_append_left _ (List.mem_filterMap.mpr ⟨env, z, hb⟩)
  have hfl : Heap.FlyingW (PySem.W.hideAll s.heap (frs X.stack ++ [a, T])) X.stack a cls a0 s.heap :=
    ⟨fun b o z => PySem.W.of_hideAll _ z, PySem.W.hideAll_none _ (by simp), hFB, oe, vs, T, oT, ts, he, hc, hd, hv1, PySem.W.hideAll_none _ (by simp), hTe, hT, hdT, h3⟩
  have hfr := I.ok.frames
  refine wpAny_looks_onW (base := PySem.W.hideAll s.heap (frs X.stack ++ [a, T])) (outer := X.outer) (cls := cls) (a0 := a0) (by rw [hfr, hst]) hf (by rw [← hst]; exact hfl) fun h4 hheld sm4 => ?_
  refine wpAny_landsW hheld fun h5 hfl5 sm5 => ?_
  rw [← hst] at hfl5
  obtain ⟨I5, F5⟩ := FlyAt.held hx I has hfl5 (sm4.trans sm5)
  exact h h5 I5 F5
theorem seen2 {M : Model} {a : Addr} {cls : Value} {Q : Unit → Shared → Prop} {A' : Around} {E1 : Value → Shared → Prop} (hx : X.ex = []) (I : Inv X pins σ H s) (fl : FlyAt X pins H s.heap a cls)
    (h : ∀ h5, Inv X pins σ H { s with heap := h5 } → FlyAt X pins H h5 a cls → Q () { s with heap := h5 }) : wpAny M A' (setFlight (.ref a) none) Q E1 s := by
  obtain ⟨oe, vs, T, oT, ts, a0, he, hc, hd, hv1, hTe, hT, hdT, h3, has⟩ := fl
  have hFB : s.heap.FunFrames (PySem.W.hideAll s.heap (frs X.stack ++ [a, T])) X.stack := PySem.W.funFrames_hide I.stack fun env z b hb => List.mem_append_left _ (List.mem_filterMap.mpr ⟨env, z, hb⟩)
  have hfl : Heap.FlyingW (PySem.W.hideAll s.heap (frs X.stack ++ [a, T])) X.stack a cls a0 s.heap :=
    ⟨fun b o z => PySem.W.of_hideAll _ z, PySem.W.hideAll_none _ (by simp), hFB, oe, vs, T, oT, ts, he, hc, hd, hv1, PySem.W.hideAll_none _ (by simp), hTe, hT, hdT, h3⟩
  refine lands_againW hfl fun h5 hfl5 sm5 => ?_
  obtain ⟨I5, F5⟩ := FlyAt.held hx I has hfl5 sm5
  exact h h5 I5 F5

def excO (a : Addr) (cls : Value) : HO := .ext fun h => ∃ o, h.get? a = some o ∧ o.cls = cls
theorem Inv.track {a : Addr} {cls : Value} (I : Inv X pins σ H s) (fl : FlyAt X pins H s.heap a cls) : Inv X pins σ (upd H a (excO a cls)) s := by
  obtain ⟨oe, vs, T, oT, ts, a0, he, ⟨hc, _⟩, _, _, _, _, _, _, has⟩ := fl
  obtain ⟨ap, hn⟩ := has a (by simp)
  have u : Un (frs X.stack) [a] H (upd H a (excO a cls)) s.heap s.heap := ⟨fun b o q _ _ _ => q, fun b o q _ _ _ => ⟨o.slots, q⟩, fun b o _ n hb => by rw [upd_ne (fun z => hb (by simp [z]))]; exact n, fun b o q _ => ⟨o, q⟩,
    fun b xs e => by rw [upd_ne (ne_of_none e hn)]; exact e, fun b o x e => by rw [upd_ne (ne_of_none e hn)]; exact e, fun b ps e => ⟨#[], by rw [upd_ne (ne_of_none e hn), e]; simp⟩⟩
  have hok : HOk X.prog X.w (upd H a (excO a cls)) s.heap := fun b o e => by
    by_cases z : b = a
    · subst z
      rw [upd_same] at e
      cases e
      exact ⟨⟨oe, he, hc⟩, ⟨oe, he⟩, fun h1 h2 ⟨o, e1, c1⟩ k => ⟨o, k o e1, c1⟩⟩
    · rw [upd_ne z] at e
      exact (I.hok b o e).stay (fun c v _ q => q) (fun c q => by
        rw [upd_ne (ne_of_none q hn)]; exact q) fun c xs q => by rw [upd_ne (ne_of_none q hn)]; exact q
  have J := (I.exs (as := [a]) fun b hb => by rw [List.mem_singleton.mp hb]; exact ap).call (g' := s.gens) (t' := s.toks) (d' := s.drawn) (ch := [a]) u hok I.bare fun b hb => by
    rw [List.mem_singleton.mp hb]
    exact ⟨.inl (List.mem_append_right _ (by simp)), ap.2.1, ap.2.2.1, ap.2.2.2.2⟩
  exact J.unexs I.ok fun b hb => by rw [List.mem_singleton.mp hb]; exact ap.1
end
end L2
namespace L2
open PySem PySem.Spec PyProof.Rows

theorem nsFind_eraseIdx {es : Array DictEntry} {i : Nat} {name y : Str} (hi : es.findIdx? (·.key.isStr name) = some i) (hy : y ≠ name) : nsFind (es.eraseIdxIfInBounds i) y = nsFind es y := by
  obtain ⟨l⟩ := es
  have h1 := Array.findIdx?_eq_some_iff_getElem.mp hi
  obtain ⟨hlt, hp, _⟩ := h1
  unfold nsFind findBy
  have e : (({ toList := l } : Array DictEntry).eraseIdxIfInBounds i) = { toList := l.eraseIdx i } := by
    unfold Array.eraseIdxIfInBounds
    rw [dif_pos hlt]
    simp
  rw [e, ← Array.find?_toList, ← Array.find?_toList, find_eraseIdx]
  intro a ha
  have hlt' : i < l.length := by simpa using hlt
  rw [List.getElem?_eq_getElem hlt'] at ha
  cases ha
  have hp' : l[i].key.isStr name = true := by simpa using hp
  cases q : l[i].key.isStr y with
  | false => exact q
  | true =>
    exfalso
    revert hp' q
    cases l[i].key <;> simp [Value.isStr]
    intro a b
    exact hy (b.symm.trans a)

section
variable {M : Model} {A : Around} {E : Value → Shared → Prop} {s : Shared}
theorem nsDel_keeps {a : Addr} {m : Str → Option Value} {name : Str} {Q : Bool → Shared → Prop} (hn : s.heap.Ns a m)
    (hQ : ∀ h' m', h'.Ns a m' → (∀ y, y ≠ name → m' y = m y) → Heap.SameBut a s.heap h' → Q (m name).isSome { s with heap := h' }) : wpAny M A (nsDel a name) Q E s := by
  obtain ⟨o, es, ep, ho, hd, hk, hm⟩ := id hn
  have hany : es.any (·.refKey) = false := by
    rw [Array.any_eq_false']; intro e he; obtain ⟨n, t, h⟩ := hk e he; simp [DictEntry.refKey, h]
  have hsome : (m name).isSome = es.any (·.key.isStr name) := by
    rw [← hm name]; simp only [nsFind, findBy, Option.isSome_map]
    rw [Bool.eq_iff_iff]; simp only [Array.find?_isSome, Array.any_eq_true]
    constructor
    · rintro ⟨x, hx, hp⟩; obtain ⟨i, hi, rfl⟩ := Array.mem_iff_getElem.mp hx; exact ⟨i, hi, hp⟩
    · rintro ⟨i, hi, hp⟩; exact ⟨_, Array.getElem_mem hi, hp⟩
  have hhas : nsHas name o = pure (es.any (·.key.isStr name)) := by
    rw [nsHas_eq]; unfold nsHasByArray; rw [hd]
    show (if (es.any fun x => x.key.isStr name) = true then _ else _) = _
    generalize (es.any fun x => x.key.isStr name) = b
    cases b <;> simp [hany]
  unfold nsDel
  refine wpAny_bind (wpAny_loadPart ho ?_)
  rw [hhas]
  refine wpAny_bind (wpAny_pure ?_)
  rw [← hsome]
  cases hmn : (m name).isSome
  · have := hQ s.heap m hn (fun _ _ => rfl) (.refl ..)
    rw [hmn] at this
    exact wpAny_pure this
  · refine wpAny_bind (wpAny_updatePart ho (wpAny_pure ?_))
    have key : ∃ m', (s.heap.update a (Obj.dropName name)).Ns a m' ∧ ∀ y, y ≠ name → m' y = m y := by
      obtain ⟨cl, d, dt, sl⟩ := o
      subst hd
      cases hi : es.findIdx? (·.key.isStr name) with
      | some i => exact ⟨_, ⟨_, _, ep + 1, Heap.get?_update_self _ ho (by simp only [Obj.dropName_eq, Obj.dropNameByArray, hi] <;> rfl), (by simp only [Obj.dropName_eq, Obj.dropNameByArray, hi] <;> rfl), hk.erase i, fun _ => rfl⟩, fun y hy => (nsFind_eraseIdx hi hy).trans (hm y)⟩
      | none => exact ⟨_, ⟨_, _, ep, Heap.get?_update_self _ ho (by simp only [Obj.dropName_eq, Obj.dropNameByArray, hi] <;> rfl), (by simp only [Obj.dropName_eq, Obj.dropNameByArray, hi] <;> rfl), hk, fun _ => rfl⟩, fun y _ => hm y⟩
    obtain ⟨m', hm', hy⟩ := key
    have := hQ _ m' hm' hy (Heap.SameBut.update ..)
    rw [hmn] at this
    exact this
end

theorem name_goes {X : Cx} {pins : List (Addr × Obj)} {σ : St} {H : Hp} {s : Shared} {A : Around} {E : Value → Shared → Prop} {i : Nat} {n : Str} {pos : Pos} {Q : Unit → Shared → Prop} (I : Inv X pins σ H s) (hN : X.N.Nodup) (hi : X.N[i]? = some n) (hl : X.env.scope.names.lookup n = some .local)
    (h : ∀ s', Inv X pins (σ.set i none) H s' → Q () s') : wpAny (model X.prog X.w) A (do bindName X.env n .none; unbindBehindTheSuite X.env n pos) Q E s := by
  have hp : (X.env.scope.kind == .class || (X.env.scope.kind == .module && X.env.locals != X.env.globals)) = false := by rw [I.ok.kind]; rfl
  have hkl : X.env.kindOf n = some .local := hl
  refine wpAny_bind (wpAny_bindName (store_ok (v := .non) (u := .none) I hN hi (.inl hl) rfl (fun s1 I1 => ?_) (.inr hl)))
  unfold unbindBehindTheSuite
  refine wpAny_onRaise ?_
  unfold unbindName
  refine wpAny_bind (wpAny_point (wpAny_bind ?_))
  unfold deleteName
  simp only [hkl, hp]
  rw [if_neg (by decide)]
  obtain ⟨m, hn, hlk⟩ := id I1.loc
  refine wpAny_bind (nsDel_keeps hn fun h₂ m₂ hn₂ hy hs₂ => ?_)
  have hmn : (m n).isSome = true := by
    have hiσ : i < σ.length := by rw [I.len]; exact (List.getElem?_eq_some_iff.mp hi).1
    obtain ⟨u, _, l⟩ := hlk i n .non hi (by rw [List.getElem?_set_self hiσ]) (.inl hl)
    rcases l with ⟨_, e⟩ | ⟨k, _⟩
    · rw [e]; rfl
    · rw [hkl] at k
      rcases k with k | k <;> cases k
  rw [hmn]
  simp only [if_true, Bool.not_true, Bool.false_eq_true, if_false]
  refine wpAny_pure (wpAny_point (h _ ?_))
  obtain ⟨hp1, g1, d1, t1, os1⟩ := s1
  have hok : HOk X.prog X.w H h₂ := I1.hok.but [X.env.locals] (fun a ha => by rw [List.mem_singleton.mp ha]; exact I1.free) fun b o hb q => (hs₂.2 b (fun z => hb (by simp [z]))).trans q
  have oth : ∀ b, b ≠ X.env.locals → h₂.get? b = hp1.get? b := fun b hb => hs₂.2 b hb
  have neL : ∀ b o, X.s₀.heap.get? b = some o → b ≠ X.env.locals := fun b o e => Nat.ne_of_lt (Nat.lt_of_lt_of_le (Heap.lt_size e) I1.ok.above)
  have cellK : ∀ x c, X.env.cells.lookup x = some c → ∀ v, hp1.IsCell c v → h₂.IsCell c v := fun x c e v ⟨o, ho, hd⟩ => ⟨o, (oth c (I1.cne x c e)).trans ho, hd⟩
  refine ⟨I1.ok, I1.os, I1.bare, ⟨fun b o e n hb hx => (oth b (neL b o e)).trans (I1.base.keep b o e n hb hx), fun b o e n hb hx => ?_, I1.base.free, fun b o e hx => ?_, I1.base.tups, I1.base.frzs, I1.base.tbls⟩, ⟨m₂, hn₂, fun j y v e1 e2 e3 => ?_⟩,
    fun x c e => ?_, I1.free, I1.freeC, fun p hp => ?_, hok, by rw [List.length_set]; exact I.len⟩
  · obtain ⟨sl, q⟩ := I1.base.slot b o e n hb hx
    exact ⟨sl, (oth b (neL b o e)).trans q⟩
  · obtain ⟨o', q⟩ := I1.base.there b o e hx
    exact ⟨o', (oth b (neL b o e)).trans q⟩
  · have hji : j ≠ i := fun z => by
      subst z
      rw [List.getElem?_set] at e2
      split at e2
      · split at e2 <;> cases e2
      · rename_i z; exact z rfl
    have hyn : y ≠ n := fun z => hji (nodup_ix hN e1 (z ▸ hi))
    obtain ⟨u, r, l⟩ := hlk j y v e1 (by rw [List.getElem?_set_ne (Ne.symm hji)] at e2 ⊢; exact e2) e3
    refine ⟨u, r, ?_⟩
    rcases l with ⟨k, e⟩ | ⟨k, c, e, z⟩
    · exact .inl ⟨k, (hy y hyn).trans e⟩
    · exact .inr ⟨k, c, e, cellK y c e _ z⟩
  · obtain ⟨v, z⟩ := I1.cell x c e
    exact ⟨v, cellK x c e v z⟩
  · obtain ⟨e, n', ne, nf, d⟩ := I1.pin p hp
    exact ⟨(oth p.1 ne).trans e, n', ne, nf, d⟩

abbrev Cx.suite (X : Cx) (a : Addr) : Cx := { X with A := X.A.mark (some (.ref a)), calm := false, xe := fun _ _ => False }
section
variable {X : Cx} {pins : List (Addr × Obj)} {σ : St} {H : Hp} {s : Shared} {a : Addr}
theorem Inv.suite (I : Inv X pins σ H s) (a : Addr) : Inv (X.suite a) pins σ H s :=
  have ok := I.ok
  ⟨⟨ok.mod, ok.kind, ok.glob, ok.blt, ok.above, ok.inj, ok.has, ok.cab, fun z => (Bool.false_ne_true z).elim, ok.frames, ok.stk, ok.exf, ok.bs, ok.bsz, ok.noex, ok.exfs, ok.funs, ok.frf⟩, I.os, I.bare, I.base, I.loc, I.cell, I.free, I.freeC, I.pin, I.hok, I.len⟩
theorem Inv.unsuite (I : Inv (X.suite a) pins σ H s) (ok : X.Ok) : Inv X pins σ H s := ⟨ok, I.os, I.bare, I.base, I.loc, I.cell, I.free, I.freeC, I.pin, I.hok, I.len⟩
theorem SP.unsuite {D : Ends} {f : Flow} (h : SP (X.suite a) pins D f s) (ok : X.Ok) : SP X pins D f s := by
  cases f with
  | next => obtain ⟨σ', H', I, q⟩ := h; exact ⟨σ', H', I.unsuite ok, q⟩
  | brk => obtain ⟨σ', H', I, q⟩ := h; exact ⟨σ', H', I.unsuite ok, q⟩
  | cont => obtain ⟨σ', H', I, q⟩ := h; exact ⟨σ', H', I.unsuite ok, q⟩
  | ret u => obtain ⟨v, σ', H', I, r, q⟩ := h; exact ⟨v, σ', H', I.unsuite ok, r, q⟩
end
end L2
namespace L2
open PySem PySem.Spec PyProof.Rows

section
variable {M : Model} {A : Around} {E : Value → Shared → Prop}
variable {nm q nm' q' : Str} {C N C' N' : Addr} {bs bm bs' bm' : List Value} {hdct hdct' : Bool} {sn sn' : List Str} {sub sub' : List Value} {ab ab' : Bool} {col col' : Option Bool} {dd dd' : Option Addr} {k0 k1 k2 k3 k5 l0 l1 l2 l3 l5 : Option Value} {newId newId' : String}
theorem excMatches_own {h : Heap} {g : Array GenState} {d : Drawn} {t : Nat} {os : OsState} {e : Addr} {oe : Obj} {Q : Bool → Shared → Prop}
    (hC : h.get? C = some (excClassObj nm q C N bs bm hdct sn sub ab col dd k0 k1 k2 k3 k5 newId)) (hC' : h.get? C' = some (excClassObj nm' q' C' N' bs' bm' hdct' sn' sub' ab' col' dd' l0 l1 l2 l3 l5 newId'))
    (he : h.get? e = some oe) (hcls : oe.cls = .ref C) (hbase : bm'.contains (.type "BaseException") = true)
    (hq : Q ((Value.ref C :: bm).contains (.ref C')) ⟨h, g, d, t, os⟩) : wpAny M A (excMatches (.ref e) (.ref C')) Q E ⟨h, g, d, t, os⟩ := by
  have hcB : (Value.ref C' :: bm').contains (.type "BaseException") = true := by rw [List.contains_cons, hbase, Bool.or_true]
  have f := tc_notTuple
  unfold excMatches
  repeat (first | (with_reducible refine wpAny_loadPart_at he ?_; rw [hcls]) | with_reducible refine wpAny_loadPart_at hC' ?_ | (with_reducible refine wpAny_isSubtype_exc hC' ?_; rw [hcB]) | with_reducible refine wpAny_isSubtype_exc hC ?_ | wp_step)
  cases hb : (Value.ref C :: bm).contains (.ref C') <;> (rw [hb] at hq; wp_walk; exact hq)
end

def PM (X : Cx) (t : Expr) (cls : Value) (tm : TT) : Prop :=
  ∀ (pins : List (Addr × Obj)) (s : Shared) (σ : St) (H : Hp) (a : Addr) (oa : Obj) (Q : Bool → Hp → Prop), Inv X pins σ H s → (a, oa) ∈ pins → oa.cls = cls → tm σ H Q →
    wpAny (model X.prog X.w) X.A (eval t X.env) (fun c s1 => wpAny (model X.prog X.w) X.A (excMatches (.ref a) c) (TP X pins σ Q) (fun _ _ => False) s1) (fun _ _ => False) s
def tBool (b : Bool) : TT := fun _ H Q => Q b H
theorem pm_own {X : Cx} {x x' : Str} {C C' : Addr} {bm bm' : List Value} {p : Pos} (O : OX X.K X.mg x C bm) (O' : OX X.K X.mg x' C' bm') (hg : Gl X x' := by rfl) (hdb : (x' == ("__debug__" : Str)) = false := by decide) :
    PM X (.Name x' p) (.ref C) (tBool ((Value.ref C :: bm).contains (.ref C'))) := by
  intro pins s σ H a oa Q I hp hc h
  obtain ⟨N, nm, q, bs, hdct, sn, sub, ab, col, dd, k0, k1, k2, k3, k5, lk, _, _⟩ := O.obj
  obtain ⟨N', nm', q', bs', hdct', sn', sub', ab', col', dd', l0, l1, l2, l3, l5, lk', _, _⟩ := O'.obj
  refine ld_glob I hg O'.bound ?_ hdb
  obtain ⟨hp', g, d, t, os⟩ := s
  exact excMatches_own (I.kIn _ _ lk) (I.kIn _ _ lk') (I.pin _ (List.mem_append_right _ hp)).1 hc ((PySem.W.tail_of_in I.kIn O'.tail).hasType rfl) ⟨H, I, h⟩
def PH (X : Cx) (hs : List ExceptHandler) (t : Addr → Value → TS) : Prop :=
  ∀ (pins : List (Addr × Obj)) (s : Shared) (σ : St) (H : Hp) (D : Ends) (a : Addr) (cls : Value), Inv X pins σ H s → FlyAt X pins H s.heap a cls → t a cls D σ H →
    wpAny (model X.prog X.w) X.A (handleBy (.ref a) X.env hs) (SP X pins D) (fun _ _ => False) s

theorem Inv.pinX {X : Cx} {pins : List (Addr × Obj)} {σ : St} {H : Hp} {s : Shared} {a : Addr} {cls : Value} (I : Inv X pins σ H s) (fl : FlyAt X pins H s.heap a cls) :
    ∃ oa T oT, Inv X ([(a, oa), (T, oT)] ++ pins) σ H s ∧ oa.cls = cls ∧ ∀ {H' : Hp} {s' : Shared}, Inv X ([(a, oa), (T, oT)] ++ pins) σ H' s' → FlyAt X pins H' s'.heap a cls := by
  obtain ⟨oe, vs, T, oT, ts, a0, he, hc, hd, hv1, hTe, hT, hdT, h3, has⟩ := fl
  refine ⟨oe, T, oT, I.pins_of fun p hp => ?_, hc.1, fun {H' s'} J => ?_⟩
  · rcases List.mem_append.mp hp with z | z
    · rcases List.mem_cons.mp z with rfl | z
      · exact ⟨he, (has a (by simp)).2, (has a (by simp)).1.2.1, (has a (by simp)).1.2.2.2.1, fun v e => by rw [hd] at e; cases e⟩
      · rw [List.mem_singleton.mp z]
        exact ⟨hT, (has T (by simp)).2, (has T (by simp)).1.2.1, (has T (by simp)).1.2.2.2.1, fun v e => by rw [hdT] at e; cases e⟩
    · exact I.pin p (List.mem_append_right _ z)
  · have pa := J.pin (a, oe) (List.mem_append_right _ (by simp))
    have pT := J.pin (T, oT) (List.mem_append_right _ (by simp))
    refine ⟨oe, vs, T, oT, ts, a0, pa.1, hc, hd, hv1, hTe, pT.1, hdT, h3, fun b hb => ?_⟩
    rcases List.mem_cons.mp hb with rfl | hb
    · exact ⟨(has _ (by simp)).1, pa.2.1⟩
    · rw [List.mem_singleton.mp hb]; exact ⟨(has T (by simp)).1, pT.2.1⟩
theorem Inv.unpin {X : Cx} {pins more : List (Addr × Obj)} {σ : St} {H : Hp} {s : Shared} (I : Inv X (more ++ pins) σ H s) : Inv X pins σ H s := I.pins_of fun p hp => I.pin p (List.mem_append_right _ (List.mem_append_right _ hp))

def tClause (cls0 : Value) (tm : TT) (take rest : Addr → Value → TS) : Addr → Value → TS := fun a cls D σ H => cls = cls0 ∧ tm σ H fun b H' => if b = true then take a cls D σ H' else rest a cls D σ H'
def tSuiteAs (i : Nat) (tb : TS) : Addr → Value → TS := fun a cls D σ H =>
  tb { nx := fun σ' H' => D.nx (σ'.set i none) H', rt := D.rt, bk := fun σ' H' => D.bk (σ'.set i none) H', ct := fun σ' H' => D.ct (σ'.set i none) H' } (σ.set i (some (.ref a))) (upd H a (excO a cls))
section
variable {X : Cx} {t : Expr} {b₀ : Stmt} {body : List Stmt} {pos : Pos} {rest : List ExceptHandler} {cls0 : Value} {tm : TT} {tb : TS} {tr : Addr → Value → TS}
theorem ph_nil : PH X [] fun _ _ _ _ _ => False := fun _ _ _ _ _ _ _ _ _ h => h.elim
theorem ph_cons_as {i : Nat} {n : Str} (hx : X.ex = []) (hN : X.N.Nodup) (hm : ∀ a, PM (X.suite a) t cls0 tm) (hb : ∀ a, PSs (X.suite a) (b₀ :: body) tb) (hr : PH X rest tr) (hi : X.N[i]? = some n := by rfl) (hl : X.env.scope.names.lookup n = some .local := by rfl) :
    PH X (.ExceptHandler (some t) (some n) (b₀ :: body) pos :: rest) (tClause cls0 tm (tSuiteAs i tb) tr) := by
  intro pins s σ H D a cls I fl ⟨hcl, h⟩
  subst hcl
  refine wpAny_handleBy_cons (codeAny_handlers_test ?_) (by intro q; cases q)
  obtain ⟨oa, T, oT, J, hc, back⟩ := I.pinX fl
  have h1 := hm a _ s σ H a oa _ (J.suite a) (by simp) hc h
  refine wpAny_mono h1 (fun c s1 h2 => wpAny_mono h2 (fun b s2 ⟨H2, J2, q⟩ => ?_) fun _ _ z => z.elim) fun _ _ z => z.elim
  have J3 := J2.unsuite I.ok
  cases b with
  | true =>
    refine codeAny_handlers_suite_as (seen2 hx J3.unpin (back J3) fun h5 I5 F5 => ?_)
    refine store_ok (v := .ref a) (I5.track F5) hN hi (.inl hl) rfl (fun s6 I6 => ?_) (.inr hl)
    refine wpAny_mono (hb a pins s6 _ _ _ (I6.suite a) q) (fun f s7 hf => ?_) fun _ _ z => z.elim
    have hf := hf.unsuite I.ok
    cases f with
    | next => obtain ⟨σ', H', I7, q7⟩ := hf; exact name_goes I7 hN hi hl fun s8 I8 => ⟨_, H', I8, q7⟩
    | brk => obtain ⟨σ', H', I7, q7⟩ := hf; exact name_goes I7 hN hi hl fun s8 I8 => ⟨_, H', I8, q7⟩
    | cont => obtain ⟨σ', H', I7, q7⟩ := hf; exact name_goes I7 hN hi hl fun s8 I8 => ⟨_, H', I8, q7⟩
    | ret u => obtain ⟨v, σ', H', I7, r, q7⟩ := hf; exact name_goes I7 hN hi hl fun s8 I8 => ⟨v, _, H', I8, r, q7⟩
  | false => exact hr pins s2 σ H2 D a cls J3.unpin (back J3) q
end

def PXe (X : Cx) (e : Expr) (t : XK → TE) : Prop := ∀ (pins : List (Addr × Obj)) (s : Shared) (σ : St) (H : Hp) (Q : VK) (E : XK), Inv X pins σ H s → t E σ H Q → wpAny (model X.prog X.w) X.A (eval e X.env) (EP X pins σ Q) (XE X pins σ E) s
def PXs (X : Cx) (st : List Stmt) (t : XK → TS) : Prop := ∀ (pins : List (Addr × Obj)) (s : Shared) (σ : St) (H : Hp) (D : Ends) (E : XK), Inv X pins σ H s → t E D σ H → wpAny (model X.prog X.w) X.A (execs st X.env) (SP X pins D) (XE X pins σ E) s
section
variable {X : Cx} {e : Expr} {es : List Expr} {pos p : Pos} {t : TA}
theorem pxe_call {k : Nat} {x : Str} {ps : List Str} {sp : Sp} (hx : X.ex = []) (h : HasX X.prog X.w X.K X.mg X.base k x ps sp) (hr : Room k X.A) (ha : PA X.nox (e :: es) t) (hg : Gl X x := by rfl)
    (hdb : (x == ("__debug__" : Str)) = false := by decide) (he : starEach (e :: es) X.env = (false, eval e X.env) :: starEach es X.env := by rfl) (hpl : (backTo pos (starEach es X.env)).any (·.1) = false := by rfl) :
    PXe X (.Call (.Name x p) (e :: es) [] pos) fun E => tCall sp [] E t := by
  intro pins s σ H Q E I hw
  obtain ⟨f, fd, F, hb, hk, hm⟩ := h
  refine wpAny_Call_Name_kw (ld_glob I hg hm ?_ hdb)
  refine PySem.W.callWith_K (h₀ := X.base) I.ok.mod.kin hk (wpAny_mono (ha pos pins s σ H _ (I.wish _) hw) (fun us s1 ⟨vs, H1, I1, r, q⟩ => ⟨I1.kIn, ?_⟩) fun _ _ z => z.elim) he hpl
  have J := I1.unwish
  have q : sp vs H1 Q E := by have z : sp (vs ++ []) H1 Q E := q; rwa [List.append_nil] at z
  have hl : us.length = ps.length := by rw [← r.length]; exact F.len _ _ _ _ q
  refine wpAny_call (codeAny_mono (F.run X.A X.stack s1 H1 ⟨us, []⟩ us vs Q E hr J.env0 (.of_eq (hb us hl)) r q) fun r s' hq => ?_)
  cases r with
  | error e => exact J.afterXE hx hq
  | ok fl =>
    cases fl with
    | ret u => exact J.after hq
    | next => exact False.elim hq
    | brk => exact False.elim hq
    | cont => exact False.elim hq
def tTry (tb : XK → TS) (th : Addr → Value → TS) : TS := fun D σ H => tb (fun cls a H' => ∃ a', a = some a' ∧ th a' cls D σ H') D σ H
theorem ps_try {body : List Stmt} {h₀ : ExceptHandler} {hs : List ExceptHandler} {tb : XK → TS} {th : Addr → Value → TS} (hx : X.ex = []) (hst : X.stack = X.env :: X.outer) (hf : X.env.frame = some X.env.locals) (hb : PXs X body tb) (hh : PH X (h₀ :: hs) th) :
    PS X (.Try body (h₀ :: hs) [] [] pos) (tTry tb th) := by
  intro pins s σ H D I h
  refine wpAny_Try_except (wpAny_mono (hb pins s σ H D _ I h) (fun f s1 q => ?_) fun e s1 q => ?_)
  · cases f with
    | next => exact wpAny_execs_nil q
    | ret v => exact q
    | brk => exact q
    | cont => exact q
  · obtain ⟨a, cls, H', rfl, I', fl, a', ha, q⟩ := q
    cases ha
    exact seen hx hst hf I' fl fun h5 I5 F5 => wpAny_mono (hh pins _ σ H' D a cls I5 F5 q) (fun _ _ z => z) fun _ _ z => z.elim
end
end L2
namespace L2
open PySem PySem.Spec PyProof.Rows

def OwnAt (h : Heap) (C : Addr) (bm : List Value) : Prop := ∃ N nm q bs hdct sn sub ab col dd k0 k1 k2 k3 k5 newId, h.get? C = some (excClassObj nm q C N bs bm hdct sn sub ab col dd k0 k1 k2 k3 k5 newId) ∧ bm.contains (.type "BaseException") = true
theorem OX.at {K : PySem.W.Frag} {mg : Str → Option Value} {x : Str} {C : Addr} {bm : List Value} {h : Heap} (O : OX K mg x C bm) (X : K.In h) : OwnAt h C bm := by
  obtain ⟨N, nm, q, bs, hdct, sn, sub, ab, col, dd, k0, k1, k2, k3, k5, lk, _, _⟩ := O.obj
  exact ⟨N, nm, q, bs, hdct, sn, sub, ab, col, dd, k0, k1, k2, k3, k5, _, X _ _ lk, (PySem.W.tail_of_in X O.tail).hasType rfl⟩

section
variable {M : Model} {A : Around} {E : Value → Shared → Prop} {h : Heap} {g : Array GenState} {d : Drawn} {t : Nat} {os : OsState}
theorem isSubtype_own {C : Addr} {bm : List Value} {c : Value} {Q : Bool → Shared → Prop} (O : OwnAt h C bm) (hq : Q ((Value.ref C :: bm).contains c) ⟨h, g, d, t, os⟩) : wpAny M A (isSubtype (.ref C) c) Q E ⟨h, g, d, t, os⟩ := by
  obtain ⟨N, nm, q, bs, hdct, sn, sub, ab, col, dd, k0, k1, k2, k3, k5, newId, hC, hb⟩ := O
  exact wpAny_isSubtype_exc hC hq
end

end L2
namespace L2
open PySem PySem.Spec PySem.Calls PyProof.Rows PySem.W

theorem exc_ans {K : Frag} {e C : Addr} {c : Value} (ty : ∀ (M : Model) (h : Heap), K.In h → Looks M h (typeOf c) (.type "type")) (it : ∀ (M : Model) (h : Heap), K.In h → Looks M h (isType c) true)
    (sub : ∀ (M : Model) (h : Heap), K.In h → Looks M h (isSubtype (.ref C) c) true) : Answers (fun s => K.In s.heap ∧ ∃ o, s.heap.get? e = some o ∧ o.cls = .ref C) (.ref e) c true := by
  intro dep tk prog w A R s hs
  obtain ⟨h0, g, d, tt, os⟩ := s
  obtain ⟨⟨X, o, ho, hcl⟩, hq⟩ := hs
  have LT : Looks (model prog w) h0 (typeOf (.ref e)) (.ref C) := hcl ▸ (Looks.ld ho).andThen .now
  unfold Builtin.«isinstance.nested»
  refine wpAny_bind (LT.at ?_)
  by_cases q : (Value.ref C == c) = true
  · rw [if_pos q]
    first
      | ((repeat lk); exact hq tt)
      | exact wpAny_bind (wpAny_rule (hq tt))
      | exact wpAny_bind (wpAny_rule (wpAny_pure (hq tt)))
  · rw [if_neg q]
    have LI : Looks (model prog w) h0 (isInstance (.ref e) c) true := LT.andThen (sub _ _ X)
    refine wpAny_bind ((ty _ _ X).at ?_)
    rw [if_pos (by decide)]
    k_delta "plainIsInstance"
    refine wpAny_bind (wpAny_bind ((it _ _ X).at ?_))
    simp only [Bool.not_true, Bool.false_eq_true, if_false]
    refine wpAny_bind (LI.at ?_)
    first
      | exact wpAny_pure (wpAny_pure (hq tt))
      | (simp only [if_true]; first | exact wpAny_pure (wpAny_pure (hq tt)) | exact wpAny_pure (hq tt) | exact wpAny_bind (wpAny_pure (wpAny_pure (hq tt))))
theorem exc_isi {K : Frag} {e C : Addr} {c : Value} {prog : Program} {w : World} {A : Around} {E : Value → Shared → Prop} {s : Shared} {Q : Value → Shared → Prop} (ty : ∀ (M : Model) (h : Heap), K.In h → Looks M h (typeOf c) (.type "type")) (it : ∀ (M : Model) (h : Heap), K.In h → Looks M h (isType c) true)
    (sub : ∀ (M : Model) (h : Heap), K.In h → Looks M h (isSubtype (.ref C) c) true) (X : K.In s.heap) (p : ∃ o, s.heap.get? e = some o ∧ o.cls = .ref C) (h : ∀ tk, Q (.bool true) { s with toks := tk }) :
    wpAny (model prog w) A (call (.builtin "isinstance") [.ref e, c]) Q E s :=
  call_isinstance (S := fun _ R s => (K.In s.heap ∧ ∃ o, s.heap.get? e = some o ∧ o.cls = .ref C) ∧ ∀ tk, R (.ok (.ret (.bool true))) { s with toks := tk })
    (fun prog w A R s hs => isinstance_outer (exc_ans ty it sub 0 _ prog w A R s hs) (fun z => nomatch z)) ⟨⟨X, p⟩, h⟩

theorem looks_ty_own {K : Frag} {mg : Str → Option Value} {x : Str} {C : Addr} {bm : List Value} (O : OX K mg x C bm) (M : Model) (h : Heap) (X : K.In h) : Looks M h (typeOf (.ref C)) (.type "type") ∧ Looks M h (isType (.ref C)) true := by
  obtain ⟨N, nm, q, bs, hdct, sn, sub, ab, col, dd, k0, k1, k2, k3, k5, lk, _, _⟩ := O.obj
  refine ⟨(Looks.ld (X _ _ lk)).andThen .now, fun A' Q' E' s' k q => ?_⟩
  unfold isType loadHead
  exact wpAny_bind (wpAny_loadPart (k _ _ (X _ _ lk)) (wpAny_pure q))
theorem looks_sub_own {K : Frag} {mg : Str → Option Value} {x : Str} {C : Addr} {bm : List Value} {c : Value} {b : Bool} (O : OX K mg x C bm) (hb : (Value.ref C :: bm).contains c = b) (M : Model) (h : Heap) (X : K.In h) : Looks M h (isSubtype (.ref C) c) b :=
  fun A' Q' E' s' k q => by
    obtain ⟨h', g, d, t, os⟩ := s'
    exact isSubtype_own (O.at (X.keeps k)) (by rw [hb]; exact q)
def rIsX (C : Addr) (c : V) : List V → Hp → VK → Prop := fun xs H Q => ∃ a, xs = [.ref a, c] ∧ H a = some (excO a (.ref C)) ∧ Q (.bl true) H
theorem call_isXT {X : Cx} {x : Str} {C : Addr} {bm : List Value} {T : String} (O : OX X.K X.mg x C bm) (hb : (Value.ref C :: bm).contains (.type T) = true) (hm : kitMeta T = true) : CallR X (.builtin "isinstance") (rIsX C (.ty T)) := by
  intro pins s σ H xs us Q I r h
  obtain ⟨a, rfl, ha, q⟩ := h
  obtain ⟨u, c, rfl, r1, r2⟩ := Vals.two r
  obtain rfl : c = Value.type T := r2
  obtain rfl : u = Value.ref a := r1
  have ho := (show ObjOk X.prog X.w H s.heap a (excO a (.ref C)) from I.hok a _ ha)
  exact exc_isi (K := X.K) (fun M h _ => Looks.of_pure (kitMeta_of hm)) (fun M h _ => Looks.of_pure rfl) (looks_sub_own O hb) I.kIn ho.1 fun tk => ⟨.bl true, H, I.tok tk, rfl, q⟩
end L2
namespace SM
end SM
namespace L2
open PySem PySem.Spec PyProof.Rows SM
section
variable {X : Cx} {pos : Pos}
end
end L2
namespace L2
open PySem PySem.Spec PyProof.Rows SM
section
variable {X : Cx}
end
section
variable {X : Cx} {K : PySem.W.Frag}
end
section
variable {K : PySem.W.Frag} {H : Hp} {Q : VK} {a b a1 a2 b1 b2 : Addr} {xs1 xs2 ys1 ys2 : List V} {ws vs : List T3}
end
end L2
namespace L2
open PySem PySem.Spec PyProof.Rows SM
section
variable {X : Cx} {tg : Expr}
def iRngN (ta : TA) : TI := fun σ H R => ta σ H fun vs H1 => ∃ i j : Int, vs = [.int i, .int j, .int (-1)] ∧ R (Its i (-1) (i - j).toNat) H1
theorem iRngN_ap {ta : TA} {R : It → Hp → Prop} {σ : St} {H : Hp} : iRngN ta σ H R = ta σ H fun vs H1 => ∃ i j : Int, vs = [.int i, .int j, .int (-1)] ∧ R (Its i (-1) (i - j).toNat) H1 := rfl
end
end L2
namespace L2
open PySem PySem.Spec PySem.Calls PyProof.Rows PySem.W Builtin Builtin.ObjectAttr Builtin.Getset_descriptor

structure OC (K : Frag) (C : Addr) : Prop where
  ga : findIn K (.ref C) "__getattribute__" = some (some (.builtin "BaseException.__getattribute__"))
  gt : findIn K (.ref C) "__getattr__" = some none
  cl : findIn K (.ref C) "__class__" = some (some (.builtin "object.__class__"))

section
variable {prog : Program} {w : World} {A : Around} {E : Value → Shared → Prop} {h : Heap} {g : Array GenState} {d : Drawn} {t : Nat} {os : OsState} {a C : Addr} {o : Obj} {bm : List Value} {K : Frag}
theorem looks_excTy {M : Model} (hx : h.get? a = some o) (hc : o.cls = .ref C) : Looks M h (typeOf (.ref a)) (.ref C) := hc ▸ (Looks.ld hx).andThen .now
theorem looks_ownSub {M : Model} {c : Value} {b : Bool} (O : ∀ h', K.In h' → OwnAt h' C bm) (X : K.In h) (hb : (Value.ref C :: bm).contains c = b) : Looks M h (isSubtype (.ref C) c) b :=
  fun A' Q' E' s' k q => by
    obtain ⟨h', g, d, t, os⟩ := s'
    exact isSubtype_own (O _ (X.keeps k)) (by rw [hb]; exact q)
theorem class_get_exc {R : Result → Shared → Prop} {tp : Value} (O : ∀ h', K.In h' → OwnAt h' C bm) (X : K.In h) (ho : (Value.ref C :: bm).contains (.type "object") = true) (hx : h.get? a = some o) (hc : o.cls = .ref C) (hq : R (.ok (.ret (.ref C))) ⟨h, g, d, t, os⟩) :
    codeAny (model prog w) A (.call (.builtin "getset_descriptor.__get__") ⟨[.builtin "object.__class__", .ref a, tp], []⟩) R ⟨h, g, d, t, os⟩ := by
  have L0 := looks_excTy (M := model prog w) hx hc
  have L1 := looks_ownSub (M := model prog w) O X ho
  refine codeAny_call_builtin KF.slot_gs.plain KF.entry_gs (KF.slot_gs.check _ _ _ _ _ _ _ _ KF.type_class (KF.args_gs _ _ _) ?_)
  unfold Builtin.«getset_descriptor.__get__» descrGet
  rw [dga_obj]
  refine wpAny_bind (wpAny_pure ?_)
  unfold descrGetter descrCheckInstance descrNameAndClass isInstance
  simp only [KF.owner_class]
  repeat lk
  refine ⟨Code.quiet_builtin _ (by decide +kernel), codeAny_builtin KF.entry_class ?_⟩
  unfold Builtin.«object.__class__» shownTypeOf
  repeat lk
  exact hq
theorem check_ga_exc {M : Model} {nameV : Value} {Q : Unit → Shared → Prop} (O : OwnAt h C bm) (hx : h.get? a = some o) (hc : o.cls = .ref C) (hq : Q () ⟨h, g, d, t, os⟩) : wpAny M A (checkBuiltinCall "BaseException.__getattribute__" ⟨[.ref a, nameV], []⟩) Q E ⟨h, g, d, t, os⟩ := by
  have hk : builtinKind "BaseException.__getattribute__" = some .slot := by decide +kernel
  have hsplit : splitId "BaseException.__getattribute__" = some ("BaseException", "__getattribute__") := by decide +kernel
  obtain ⟨N, nm, q, bs, hdct, sn, sub, ab, col, dd, k0, k1, k2, k3, k5, newId, hC, hb⟩ := O
  have hcB : (Value.ref C :: bm).contains (.type "BaseException") = true := by rw [List.contains_cons, hb, Bool.or_true]
  have ha := PySem.F.args_bexc_ga (.ref a) nameV
  simp only [checkBuiltinCall, hk, hsplit]
  refine wpAny_bind ?_
  · unfold isInstance
    repeat (first | (with_reducible refine wpAny_loadPart_at hx ?_; rw [hc]) | (with_reducible refine wpAny_isSubtype_exc hC ?_; rw [hcB]) | wp_step)
    exact hq
theorem class_entry_exc {tk : Tok} {Q : Fin → Shared → Prop} (Z : OC K C) (O : ∀ h', K.In h' → OwnAt h' C bm) (X : K.In h) (ho : (Value.ref C :: bm).contains (.type "object") = true) (hx : h.get? a = some o) (hc : o.cls = .ref C) (hq : Q (.done (.ret (.ref C))) ⟨h, g, d, t, os⟩) :
    wpAny (model prog w) A (Builtin.«object.__getattribute__» ⟨[.ref a, .str "__class__" tk], []⟩) Q E ⟨h, g, d, t, os⟩ := by
  have hT5 : (⟨h, g, d, t, os⟩ : Shared).TypeIs (.builtin "object.__class__") "getset_descriptor" := PySem.F.typeOf_object_class
  have f5 := PySem.F.typeOf_object_class
  have f6 := PySem.F.slot_gs_get.lookup
  have f7 := PySem.F.slot_gs_set.lookup
  have L1 := looks_findIn (M := model prog w) X Z.cl
  repeat (any_goals (first | assumption | (with_reducible refine wpAny_loadPart_at hx ?_; rw [hc]) | with_reducible refine L1.at ?_ | wp_step))
  refine class_get_exc O X ho hx hc ?_
  repeat (any_goals (first | assumption | wp_step))
theorem class_by_exc {tk : Tok} {fill : Bool} {Q : Value → Shared → Prop} (Z : OC K C) (O : ∀ h', K.In h' → OwnAt h' C bm) (X : K.In h) (ho : (Value.ref C :: bm).contains (.type "object") = true) (hx : h.get? a = some o) (hc : o.cls = .ref C) (hq : Q (.ref C) ⟨h, g, d, t, os⟩) :
    wpAny (model prog w) A (getAttrBy (.ref a) (.str "__class__" tk) fill false) Q E ⟨h, g, d, t, os⟩ := by
  have f3 := PySem.F.excAttr_ValueError.ga.bind (.ref a)
  have hx0 : (false && onTheHeap (Value.builtin "BaseException.__getattribute__")) = false := rfl
  have hx2 : (Value.builtin "BaseException.__getattribute__" == Value.builtin "object.__getattribute__") = false := by decide +kernel
  have hx1 : (onTheHeap (Value.ref C) && Value.builtin "BaseException.__getattribute__" == Value.builtin "object.__getattribute__") = false := by rw [hx2]; rfl
  have L1 := looks_findIn (M := model prog w) X Z.ga
  have L2 := looks_findIn (M := model prog w) X Z.gt
  repeat (any_goals (first | assumption | (with_reducible refine wpAny_loadPart_at hx ?_; rw [hc]) | with_reducible refine L1.at ?_ | with_reducible refine L2.at ?_ | wp_step))
  refine codeAny_call_builtin PySem.F.excAttr_ValueError.ga.plain PySem.F.entry_bexc_ga (check_ga_exc (O _ X) hx hc (class_entry_exc Z O X ho hx hc ?_))
  repeat (any_goals (first | assumption | wp_step))
theorem class_exc {Q : Option Value → Shared → Prop} (Z : OC K C) (O : ∀ h', K.In h' → OwnAt h' C bm) (X : K.In h) (ho : (Value.ref C :: bm).contains (.type "object") = true) (hx : h.get? a = some o) (hc : o.cls = .ref C) (hq : Q (some (.ref C)) ⟨h, g, d, t + 1, os⟩) :
    wpAny (model prog w) A (getAttr? (.ref a) "__class__") Q E ⟨h, g, d, t, os⟩ := by
  unfold getAttr? getAttrBy?
  refine wpAny_bind (wpAny_mkText (wpAny_bind (wpAny_attempt ?_)))
  exact class_by_exc Z O X ho hx hc (wpAny_pure hq)
end
section
variable {K : Frag} {mg : Str → Option Value} {x x' : Str} {C C' : Addr} {bm bm' : List Value}
theorem kitx_exc {a : Addr} (Z : OC K C) (O : OX K mg x C bm) (ho : (Value.ref C :: bm).contains (.type "object") = true) : KitX K (.ref a) (.ref C) (fun h => ∃ o, h.get? a = some o ∧ o.cls = .ref C) where
  ty := fun M h _ p => by
    obtain ⟨o, h1, h2⟩ := p
    exact looks_excTy h1 h2
  it := fun M h X _ => (looks_ty_own O M h X).2
  ne := fun h tp dd its n sl X htp => by
    refine Bool.eq_false_iff.mpr fun q => ?_
    have e : C = tp := Value.ref.inj (beq_iff_eq.mp q)
    subst e
    obtain ⟨N, nm, q, bs, hdct, sn, sub, ab, col, dd, k0, k1, k2, k3, k5, lk, _, _⟩ := O.obj
    have z := (X _ _ lk).symm.trans htp
    have z2 := congrArg (fun o => o.map Obj.cls) z
    have z3 : some (Value.type "type") = some (Value.type "tuple") := z2
    exact absurd (Value.type.inj (Option.some.inj z3)) (by decide)
  ca := fun {prog w A E Q s} X p k => by
    obtain ⟨o, h1, h2⟩ := p
    obtain ⟨h, g, d, t, os⟩ := s
    exact class_exc Z (fun h' X' => O.at X') X ho h1 h2 k
theorem kitOne_own (O : OX K mg x C bm) (O' : OX K mg x' C' bm') : kitOne K (.ref C) (.ref C') = some ((Value.ref C :: bm).contains (.ref C')) := by
  obtain ⟨N, nm, q, bs, hdct, sn, sub, ab, col, dd, k0, k1, k2, k3, k5, lk, _, _⟩ := O.obj
  obtain ⟨N', nm', q', bs', hdct', sn', sub', ab', col', dd', k0', k1', k2', k3', k5', lk', _, _⟩ := O'.obj
  unfold kitOne
  by_cases e : (Value.ref C == Value.ref C') = true
  · rw [if_pos e]
    have : C = C' := Value.ref.inj (beq_iff_eq.mp e)
    subst this
    simp
  · rw [if_neg e]
    unfold kitCls
    have h1 : (clsIn K C').isSome = true := by unfold clsIn; rw [lk']; rfl
    have h2 : typeIn K (.ref C') = some (.type "type") := by show (K.lookup C').map (·.cls) = _; rw [lk']; rfl
    simp only [h1, h2, Bool.true_and, beq_self_eq_true, if_true]
    show mroIn K C (.ref C') = _
    unfold mroIn clsIn
    rw [lk]
    rfl
end
end L2
namespace L2
open PySem PySem.Spec PySem.Calls PyProof.Rows SM
section
variable {X : Cx}
end
end L2
namespace SM
end SM
namespace L2
open PySem PySem.Spec PySem.Calls PyProof.Rows SM
section
variable {prog : Program} {w : World} {A : Around} {E : Value → Shared → Prop} {s : Shared}
end
section
variable {X : Cx} {tg : Expr}
def tRng (ta : TA) : TE := fun σ H Q => ta σ H fun vs H1 => ∃ j : Int, vs = [.int j] ∧ ∀ p, H1 p = none → Q (.ref p) (upd H1 p (.rng 0 j))
theorem tRng_ap {ta : TA} {σ : St} {H : Hp} {Q : VK} : tRng ta σ H Q = ta σ H fun vs H1 => ∃ j : Int, vs = [.int j] ∧ ∀ p, H1 p = none → Q (.ref p) (upd H1 p (.rng 0 j)) := rfl
def iRevR (ta : TE) : TI := fun σ H R => ta σ H fun x H1 => ∃ (a : Addr) (n : Int), x = .ref a ∧ H1 a = some (.rng 0 n) ∧ 0 ≤ n ∧ n < 2 ^ 62 ∧ R (Its (n - 1) (-1) n.toNat) H1
theorem iRevR_ap {ta : TE} {R : It → Hp → Prop} {σ : St} {H : Hp} : iRevR ta σ H R = ta σ H fun x H1 => ∃ (a : Addr) (n : Int), x = .ref a ∧ H1 a = some (.rng 0 n) ∧ 0 ≤ n ∧ n < 2 ^ 62 ∧ R (Its (n - 1) (-1) n.toNat) H1 := rfl
end
end L2
namespace SM
end SM
namespace SM
end SM
namespace L2
open PySem PySem.Spec PySem.Calls PyProof.Rows SM
section
variable {X : Cx}
end
end L2
namespace L2
open PySem PySem.Spec PyProof.Rows SM
abbrev Hd := List T3 × Int
section
variable {K : PySem.W.Frag} {H : Hp} {Q : VK} {a b : Addr} {xs ys : List V} {ws vs : List Hd}
end
section
variable {K : PySem.W.Frag} {H : Hp} {Q : VK} {a b : Addr} {ws vs : List (Option Int)}
end
end L2
namespace SM
open L2
end SM
namespace SM
open L2
end SM
namespace SM
open L2
end SM
namespace SM
def trial (n : Nat) : Nat → Nat → Bool
  | 0, _ => true
  | f + 1, d => if n % d = 0 then false else trial n f (d + 1)
theorem trial_ok {n : Nat} : ∀ {f d : Nat}, trial n f d = true → ∀ e, d ≤ e → e < d + f → n % e ≠ 0
  | 0, d, _, e, h1, h2 => by omega
  | f + 1, d, h, e, h1, h2 => by
    unfold trial at h
    split at h
    · cases h
    · rename_i c
      by_cases z : e = d
      · rw [z]; exact c
      · exact trial_ok h e (by omega) (by omega)
theorem prime_of_trial {n f : Nat} (h2 : 2 ≤ n) (hs : n < (2 + f) * (2 + f)) (h : trial n f 2 = true) : IsPart n n := by
  refine isPart_self (p := 2 + (f : Int)) (by omega) (fun d d2 dq e => ?_) (by omega) (by
    have z : ((n : Int)) < (((2 + f) * (2 + f) : Nat) : Int) := Int.ofNat_lt.mpr hs
    rw [Int.natCast_mul, Int.natCast_add] at z
    exact z)
  obtain ⟨k, rfl⟩ := Int.eq_ofNat_of_zero_le (show 0 ≤ d by omega)
  have := trial_ok h k (by omega) (by omega)
  exact this (by have := Int.emod_eq_zero_of_dvd e; omega)
theorem p6 : IsPart 1000003 1000003 := prime_of_trial (n := 1000003) (f := 1000) (by decide) (by decide) (by decide +kernel)
end SM
namespace L2
open PySem PySem.Spec PyProof.Rows SM
section
variable {prog : Program} {w : World} {B : Around} {it : Addr} {fp wr : List Addr} {GG : Array GenState → Array GenState → Prop} {n : Nat} {PV : Nat → Value → Prop} {SV : Nat → Shared → Prop} {RR : Result → Shared → Prop}
end
section
variable {prog : Program} {w : World} {A : Around} {E : Value → Shared → Prop} {s : Shared}
end
section
variable {X : Cx}
end
end L2
namespace L2
open PySem PySem.Spec PyProof.Rows SM
section
variable {X : Cx}
end
end L2
namespace L2
open PySem PySem.Spec PyProof.Rows SM
section
variable {prog : Program} {w : World} {B : Around} {E : Value → Shared → Prop} {s : Shared}
end
section
variable {prog : Program} {w : World} {B : Around} {E : Value → Shared → Prop} {s : Shared}
end
def okET (K : PySem.W.Frag) (a : Addr) (n : Nat) (H : Hp) : Prop := ∃ xs, SqT K H a xs ∧ xs.length = n
def IteT (K : PySem.W.Frag) (a : Addr) (n : Nat) : It := Itp n (okET K a n) fun i H u v => u = .int i ∧ ∀ xs, SqT K H a xs → xs[i]? = some v
def iEnumT (K : PySem.W.Frag) (ta : TE) : TI := fun σ H R => ta σ H fun x H1 => ∃ a xs, x = .ref a ∧ SqT K H1 a xs ∧ R (IteT K a xs.length) H1
section
variable {X : Cx} {es : List Expr} {k : Nat} {tpos : Pos}
end
theorem iEnumT_ap {K : PySem.W.Frag} {ta : TE} {σ : St} {H : Hp} {R : It → Hp → Prop} : iEnumT K ta σ H R = ta σ H fun x H1 => ∃ a xs, x = .ref a ∧ SqT K H1 a xs ∧ R (IteT K a xs.length) H1 := rfl
end L2
namespace L2
open PySem PySem.Spec PyProof.Rows SM
theorem vals_strs : ∀ {ys : List Str} {its : List Value}, Vals (ys.map V.str) its → ∃ l : List (Str × Tok), its = strValues l ∧ l.map (·.1) = ys
  | [], _, .nil => ⟨[], rfl, rfl⟩
  | y :: ys, _, .cons r rs => by
    obtain ⟨t, rfl⟩ := r
    obtain ⟨l, rfl, e⟩ := vals_strs rs
    exact ⟨(y, t) :: l, rfl, by simp [e]⟩
section
variable {X : Cx}
theorem mt_join : MtR X "str.join" (fun x vs H Q => ∃ (sep : Str) (a : Addr) (ys : List Str), x = .str sep ∧ vs = [.ref a] ∧ SqL X.K H a (ys.map V.str) ∧ ys.toArray.foldl (· + ·.length + sep.length) 0 ≤ sizeLine ∧ (Builtin.Str.glued sep ys).length ≤ sizeLine ∧ Q (.str (Builtin.Str.glued sep ys)) H) := by
  intro pins s σ H x vs v us Q I rx rs h
  obtain ⟨sep, a, ys, rfl, rfl, hq, hz, hg, q⟩ := h
  obtain ⟨t, rfl⟩ := rx
  obtain ⟨u, rfl, r1⟩ := Vals.one rs
  cases r1
  obtain ⟨its, rv, pl, _⟩ := I.list hq
  obtain ⟨l, rfl, rfl⟩ := vals_strs rv
  refine call_meets PySem.F.slot_str_join (typeIs_str _ _ _) PySem.F.entry_str_join (PySem.F.args_str_join_2 _ _) (meets_str_join_list sep t a l (by simp only [Builtin.Str.tooLong]; exact decide_eq_false (Nat.not_lt.mpr hz))) ⟨pl.isList, ?_⟩
  match l, hg, q with
  | [], hg, q => exact ⟨hg, .str _, H, I.tok _, ⟨_, rfl⟩, q⟩
  | [p], _, q => exact ⟨.str p.1, H, I, ⟨_, rfl⟩, q⟩
  | p :: p2 :: l, hg, q => exact ⟨hg, .str _, H, I.tok _, ⟨_, rfl⟩, q⟩
theorem call_int_text : CallR X (.type "int") (fun xs H Q => ∃ z n, xs = [.str z] ∧ intText? z = some n ∧ z.length ≤ 640 ∧ Q (.int n) H) := by
  intro pins s σ H xs us Q I r h
  obtain ⟨z, n, rfl, e, hl, q⟩ := h
  obtain ⟨u, rfl, t, rfl⟩ := Vals.one r
  exact PySem.W.KIN.call_text e hl ⟨.int n, H, I.tok _, ⟨_, rfl⟩, q⟩
end
end L2
namespace L2
open PySem PySem.Spec PyProof.Rows SM
def Asc (z : Str) : Prop := z.cps.all (· < 128) = true
def Itc (z : Str) : It := ⟨fun i _ => i < z.cps.size, fun i H x H' => H' = H ∧ ∃ c, z.cps[i]? = some c ∧ x = .str ⟨#[c]⟩, fun i _ => z.cps.size ≤ i⟩
theorem turn_signs {P : Program} {w : World} {K : PySem.W.Frag} {tg : Expr} (z : Str) (t : Tok) (J : Addr) : Turn P w K tg (Itc z) [J] J (fun i h => h.IsStrIter J "str_ascii_iterator" z t i) where
  mem := by simp
  obj := fun i h st b hb => by
    have eb : b = J := by simpa using hb
    subst eb
    obtain ⟨o, e1, _, d1⟩ := st
    exact ⟨o, e1, fun v y => by rw [d1] at y; cases y⟩
  keep := fun i h h' st k => let ⟨o, e1, r⟩ := st; ⟨o, k J (by simp) o e1, r⟩
  item := by
    intro X hP hw hK hc i pins s σ H E I hf st hg
    subst hP hw hK
    have hi : i < z.cps.size := hg
    have hx : z.cps[i]? = some z.cps[i] := Array.getElem?_eq_getElem hi
    obtain ⟨f0, f1, f2, f3, f4, f5⟩ := hf J (by simp)
    refine wpAny_pyNext_ascii_item st hx fun h' st' sb => ?_
    have I1 : Inv X pins σ H { s with heap := h', toks := s.toks + 1 } := I.turned (t' := s.toks + 1) (fun b o hb e => (sb.2 b hb).trans e) f0 f1 f3 f4 f5
    obtain ⟨o, e1, c1, d1⟩ := id st'
    exact ⟨_, rfl, go_of (s := { s with heap := h', toks := s.toks + 1 }) e1 c1 d1 (by decide) ⟨.str ⟨#[z.cps[i]]⟩, H, I1, ⟨_, rfl⟩, ⟨rfl, z.cps[i], hx, rfl⟩, st', fun b hb => (hf b hb).1⟩⟩
  done := by
    intro X hP hw hK hc i pins s σ H E I hf st hg
    subst hP hw hK
    have hi : z.cps.size ≤ i := hg
    obtain ⟨f0, f1, f2, f3, f4, f5⟩ := hf J (by simp)
    exact wpAny_pyNext_ascii_end (I.ok.hd hc) st (Array.getElem?_eq_none hi) fun h' eb => ⟨rfl, I.turned (t' := s.toks) (fun b o hb e => eb b o hb e) f0 f1 f3 f4 f5⟩
  self := fun _ _ _ _ _ st h => wpAny_pyIter_striter_ascii st h
def iStr (tl : TE) : TI := fun σ H R => tl σ H fun x H1 => ∃ z, x = .str z ∧ Asc z ∧ R (Itc z) H1
theorem iStr_ap {tl : TE} {σ : St} {H : Hp} {R : It → Hp → Prop} : iStr tl σ H R = tl σ H fun x H1 => ∃ z, x = .str z ∧ Asc z ∧ R (Itc z) H1 := rfl
section
variable {X : Cx} {tg : Expr}
theorem pi_str {l : Expr} {tl : TE} (hl : PE X l tl) : PI X tg l (iStr tl) := by
  intro pins s σ H R I h
  refine thn (hl pins s σ H _ I h) fun v s1 ⟨x, H1, I1, r1, q1⟩ => ?_
  obtain ⟨z, rfl, hz, q⟩ := q1
  obtain ⟨t, rfl⟩ := r1
  refine wpAny_pyIter_ascii hz ?_
  refine ⟨s1.heap.objs.size, [s1.heap.objs.size], _, _, H1, rfl, I1.kept (t' := s1.toks) fun b o e => Heap.get?_push_of_some _ e, turn_signs z t _, ⟨_, Heap.get?_push_size _ rfl, rfl, rfl⟩, fun b hb => ?_, q⟩
  have eb : b = s1.heap.objs.size := by simpa using hb
  rw [eb]
  exact I1.fpOk (Nat.le_refl _) (I1.hok.fresh (Nat.le_refl _))
def CS (mg : Str → Option Value) (x : Str) (z : Str) : Prop := ∃ t, mg x = some (.str z t)
theorem cs_mk {K : PySem.W.Frag} {h : Heap} {mg : Str → Option Value} {x z : Str} {t : Tok} (X : K.In h) (G : h.Ns mainGlobals mg) (a : PySem.W.nsIn K mainGlobals x = some (some (.str z t))) : CS mg x z := ⟨t, PySem.W.mg_of X G a⟩
theorem pe_cs {x z : Str} {pos : Pos} (hg : Gl X x) (h : CS X.mg x z) (hd : (x == ("__debug__" : Str)) = false := by decide) : PE X (.Name x pos) (tC (.str z)) := by
  obtain ⟨t, e⟩ := h
  exact pe_glob hg e ⟨t, rfl⟩ hd
end
theorem compW_str {σ : St} {H : Hp} {Q : VK} {z : Str} {g : TG} {tt : TT} {te : TE} {own : List Str} {fr : List Nat} (Sv : St → Prop) (Pv : Addr → Nat → List V → Hp → Prop) (hS : Sv (st0 own fr σ))
    (h0 : ∀ D, H D = none → Pv D 0 [] (upd H D (.lst [])))
    (hs : ∀ D i c ys σ H', z.cps[i]? = some c → Sv σ → H' D = some (.lst ys) → ys.length ≤ i → Pv D i ys H' → g (.str ⟨#[c]⟩) σ H' fun σ2 H2 => tt σ2 H2 fun b H3 => if b = true then te σ2 H3 fun y H4 => CompP Sv Pv D i σ2 y H4 else CompN Sv Pv D (i + 1) σ2 H3)
    (hd : ∀ D ys H', H' D = some (.lst ys) → Pv D z.cps.size ys H' → Q (.ref D) H') : CompW (Itc z) g tt te own fr σ H Q := by
  intro D hD
  refine ⟨fun i m σ H => m = z.cps.size - i ∧ i ≤ z.cps.size ∧ CompN Sv Pv D i σ H, ⟨_, rfl, Nat.zero_le _, hS, [], upd_same, Nat.le_refl _, h0 D hD⟩, ?_⟩
  rintro i m σ1 H1 ⟨rfl, hi, hs1, ys, hy, hy2, p⟩
  by_cases hlt : i < z.cps.size
  · refine .inr ⟨hlt, CompN Sv Pv D (i + 1), fun σ' H' p' => ⟨z.cps.size - (i + 1), by omega, rfl, hlt, p'⟩, fun x H' y => ?_⟩
    obtain ⟨e, c, ec, ex⟩ := y
    subst e ex
    exact hs D i c ys σ1 _ ec hs1 hy hy2 p
  · have e : i = z.cps.size := by omega
    subst e
    exact .inl ⟨Nat.le_refl _, hd D ys H1 hy p⟩
end L2
namespace SM
open L2 PySem PySem.Builtin.Str
def tx (l : List Nat) : Str := ⟨l.toArray⟩
theorem tx_cps (z : Str) : tx z.cps.toList = z := by
  cases z
  simp [tx]
theorem str_ext {y z : Str} (h : y.cps.toList = z.cps.toList) : y = z := by
  rw [← tx_cps y, ← tx_cps z, h]
theorem glued_fold (g : Array Nat) : ∀ (ps : List Str) (acc : Array Nat), (ps.foldl (fun acc p => acc ++ g ++ p.cps) acc).toList = acc.toList ++ ps.flatMap fun p => g.toList ++ p.cps.toList
  | [], acc => by simp
  | p :: ps, acc => by
    rw [List.foldl_cons, glued_fold g ps]
    simp
theorem digs_head : ∀ m : Nat, 0 < m → ∃ ch r, Nat.toDigits 10 m = ch :: r ∧ ch.toNat ≠ 48 := by
  intro m
  induction m using Nat.strongRecOn with
  | _ m ih =>
    intro h0
    by_cases h : m < 10
    · rw [Nat.toDigits_of_lt_base h]
      refine ⟨_, [], rfl, ?_⟩
      have : ∀ d : Nat, d < 10 → 0 < d → (Nat.digitChar d).toNat ≠ 48 := by decide
      exact this m h h0
    · have hm : m % 10 < 10 := Nat.mod_lt m (by decide)
      have t : Nat.toDigits 10 (m / 10) ++ Nat.toDigits 10 (m % 10) = Nat.toDigits 10 (10 * (m / 10) + m % 10) := Nat.toDigits_append_toDigits (by decide) (by omega) hm
      rw [Nat.div_add_mod] at t
      obtain ⟨ch, r, e, ne⟩ := ih (m / 10) (by omega) (by omega)
      rw [← t, e]
      exact ⟨ch, _, rfl, ne⟩
theorem digs_len : ∀ (k m : Nat), m < 10 ^ (k + 1) → (Nat.toDigits 10 m).length ≤ k + 1
  | 0, m, h => by
    rw [Nat.toDigits_of_lt_base (by simpa using h)]
    simp
  | k + 1, m, h => by
    by_cases h1 : m < 10
    · rw [Nat.toDigits_of_lt_base h1]
      simp
    · have hm : m % 10 < 10 := Nat.mod_lt m (by decide)
      have t : Nat.toDigits 10 (m / 10) ++ Nat.toDigits 10 (m % 10) = Nat.toDigits 10 (10 * (m / 10) + m % 10) := Nat.toDigits_append_toDigits (by decide) (by omega) hm
      rw [Nat.div_add_mod] at t
      have ih := digs_len k (m / 10) (by rw [Nat.pow_succ] at h; omega)
      rw [← t, List.length_append, Nat.toDigits_of_lt_base hm]
      simp
      omega
theorem num_text {n : Int} (h0 : 0 ≤ n) : ∃ l : List Nat, Str.ofString (toString n) = tx l ∧ PySem.NumText.AllDigits l ∧ l ≠ [] ∧ ((PySem.NumText.digitsVal l : Nat) : Int) = n ∧ (l[0]? = some 48 → l.length = 1) ∧ ∀ k : Nat, n < 10 ^ (k + 1) → l.length ≤ k + 1 := by
  obtain ⟨m, rfl⟩ := Int.eq_ofNat_of_zero_le h0
  refine ⟨(Nat.toDigits 10 m).map Char.toNat, ?_, ?_, ?_, ?_, ?_, ?_⟩
  · rw [← tx_cps (Str.ofString _), PySem.W.KIN.signs_num]
  · intro c hc
    obtain ⟨ch, hch, e⟩ := List.mem_map.mp hc
    rw [← e]
    exact PyProof.Rows.digit_range (Nat.isDigit_of_mem_toDigits (by decide) (by decide) hch)
  · intro e
    have := List.map_eq_nil_iff.mp e
    have h := PySem.toDigits_len_ge 10 m
    rw [this] at h
    exact absurd h (by decide)
  · rw [PySem.W.KIN.val_back]
  · intro e
    rcases Nat.eq_zero_or_pos m with rfl | hp
    · rfl
    · obtain ⟨ch, r, e1, ne⟩ := digs_head m hp
      rw [e1] at e
      exact absurd (by simpa using e) ne
  · intro k hk
    rw [List.length_map]
    refine digs_len k m ?_
    have e : ((10 ^ (k + 1) : Nat) : Int) = 10 ^ (k + 1) := by rw [Int.natCast_pow]; rfl
    rw [← e] at hk
    exact Int.ofNat_lt.mp hk
end SM
namespace L2
open PySem PySem.Spec PyProof.Rows
end L2
namespace L2
open PySem PySem.Spec PyProof.Rows
section
variable {prog : Program} {w : World}
variable {A : Around} {E : Value → Shared → Prop} {s : Shared}
end
end L2
namespace L2
open PySem PySem.Spec PyProof.Rows
section
variable {prog : Program} {w : World} {A : Around}
end
end L2
namespace L2
open PySem PySem.Spec PyProof.Rows
section
variable {prog : Program} {w : World} {A : Around} {E : Value → Shared → Prop} {s : Shared}
end
end L2
namespace L2
open PySem PySem.Spec PyProof.Rows
section
variable {prog : Program} {w : World} {A : Around} {E : Value → Shared → Prop}
end
end L2
namespace L2
open PySem PySem.Spec PyProof.Rows
section
variable {prog : Program} {w : World} {A : Around} {E : Value → Shared → Prop} {s : Shared} {I S : Addr} {i ep slot : Nat} {es : Array (Int × Value)} {t : SetTable}
end
end L2
namespace L2
open PySem PySem.Spec PyProof.Rows
section
variable {prog : Program} {w : World} {A : Around} {E : Value → Shared → Prop} {s : Shared} {I S T : Addr} {i ep : Nat} {es : Array (Int × Value)} {t : SetTable} {ps : List Nat}
end
end L2
namespace L2
open PySem PySem.Spec PyProof.Rows
section
variable {prog : Program} {w : World} {A : Around} {I S T : Addr} {ep : Nat} {es : Array (Int × Value)} {t : SetTable} {ps : List Nat}
end
end L2
namespace L2
open PySem PySem.Spec PyProof.Rows
section
variable {prog : Program} {w : World} {A : Around} {E : Value → Shared → Prop} {s : Shared} {S : Addr} {ep : Nat} {es : Array (Int × Value)} {t : SetTable}
end
end L2
namespace L2
open PySem PySem.Spec PyProof.Rows
section
variable {prog : Program} {w : World} {A : Around} {E : Value → Shared → Prop} {s : Shared} {S : Addr} {ep : Nat} {es : Array (Int × Value)} {t : SetTable}
end
end L2
namespace L2
open PySem PySem.Spec PySem.Calls PyProof.Rows
section
variable {prog : Program} {w : World} {A : Around} {E : Value → Shared → Prop} {s : Shared}
end
section
variable {X : Cx}
end
end L2
namespace L2
open PySem PySem.Spec PyProof.Rows

def cxCompX (X : Cx) (N : List Str) (scope : Scope) (cl : List (Str × Addr)) (s : Shared) (H : Hp) (fp : List Addr) (E : XK) : Cx :=
  (cxComp X N scope cl s H fp).wish fun e s' => ∃ pins σ H1 s1, Inv (cxComp X N scope cl s H fp) pins σ H1 s1 ∧ CXx X.prog X.w X.stack H1 s1 E e s'
theorem cxCompX_K {X : Cx} {N : List Str} {scope : Scope} {cl : List (Str × Addr)} {s : Shared} {H : Hp} {fp : List Addr} {E : XK} : (cxCompX X N scope cl s H fp E).K = X.K := rfl
section
variable {X : Cx} {pins : List (Addr × Obj)} {σ : St} {H : Hp} {s : Shared}
end
end L2
namespace L2
open PySem
section
variable {prog : Program} {w : World} {A : Around} {E : Value → Shared → Prop} {s : Shared}
end
section
variable {prog : Program} {w : World} {A : Around} {E : Value → Shared → Prop} {s : Shared}
end
end L2
namespace L2
open PySem PySem.Spec PyProof.Rows
def Itp3 (n : Nat) (ok : Hp → Prop) (f : Nat → Hp → V → V → V → Prop) : It :=
  ⟨fun i H => i < n ∧ ok H, fun i H x H' => ∃ T u v t, H T = none ∧ x = .ref T ∧ H' = upd H T (.tup [u, v, t]) ∧ f i H u v t, fun i H => i = n ∧ ok H⟩
def okZ3 (K : PySem.W.Frag) (a b c : Addr) (n : Nat) (H : Hp) : Prop := ∃ xs ys zs, SqL K H a xs ∧ SqL K H b ys ∧ SqL K H c zs ∧ min (min xs.length ys.length) zs.length = n
def Itz3 (K : PySem.W.Frag) (a b c : Addr) (n : Nat) : It := Itp3 n (okZ3 K a b c n) fun i H u v t => (∀ xs, SqL K H a xs → xs[i]? = some u) ∧ (∀ ys, SqL K H b ys → ys[i]? = some v) ∧ ∀ zs, SqL K H c zs → zs[i]? = some t
def iZip3 (K : PySem.W.Frag) (ta tb tc : TE) : TI := fun σ H R => ta σ H fun x H1 => tb σ H1 fun y H2 => tc σ H2 fun z H3 => ∃ a b c xs ys zs, x = .ref a ∧ y = .ref b ∧ z = .ref c ∧ SqL K H3 a xs ∧ SqL K H3 b ys ∧ SqL K H3 c zs ∧ R (Itz3 K a b c (min (min xs.length ys.length) zs.length)) H3
section
variable {X : Cx} {es : List Expr} {k : Nat} {tpos : Pos}
end
theorem iZip3_ap {K : PySem.W.Frag} {ta tb tc : TE} {σ : St} {H : Hp} {R : It → Hp → Prop} : iZip3 K ta tb tc σ H R = ta σ H fun x H1 => tb σ H1 fun y H2 => tc σ H2 fun z H3 => ∃ a b c xs ys zs, x = .ref a ∧ y = .ref b ∧ z = .ref c ∧ SqL K H3 a xs ∧ SqL K H3 b ys ∧ SqL K H3 c zs ∧ R (Itz3 K a b c (min (min xs.length ys.length) zs.length)) H3 := rfl
end L2
namespace L2
open PySem PySem.Spec PyProof.Rows
section
variable {X : Cx}
end
end L2
namespace L2
open PySem PySem.Spec PyProof.Rows
section
variable {X : Cx}
end
end L2
namespace L2
open PySem PySem.Spec PySem.Calls PyProof.Rows PySem.W
def rIsXO (C C' : Addr) (bm : List Value) : List V → Hp → VK → Prop := fun xs H Q => ∃ a, xs = [.ref a, .ref C'] ∧ H a = some (excO a (.ref C)) ∧ Q (.bl ((Value.ref C :: bm).contains (.ref C'))) H
theorem call_isXO {X : Cx} {x x' : Str} {C C' : Addr} {bm bm' : List Value} (Z : OC X.K C) (O : OX X.K X.mg x C bm) (ho : (Value.ref C :: bm).contains (.type "object") = true) (O' : OX X.K X.mg x' C' bm') : CallR X (.builtin "isinstance") (rIsXO C C' bm) := by
  intro pins s σ H xs us Q I r h
  obtain ⟨a, rfl, ha, q⟩ := h
  obtain ⟨u, c, rfl, r1, r2⟩ := Vals.two r
  obtain rfl : c = Value.ref C' := r2
  obtain rfl : u = Value.ref a := r1
  have hoa := (show ObjOk X.prog X.w H s.heap a (excO a (.ref C)) from I.hok a _ ha)
  exact kia_one (kitx_exc Z O ho) I.kIn hoa.1 (kitOne_own O O') (fun z => nomatch z) fun tk => ⟨.bl _, H, I.tok tk, rfl, q⟩
end L2
namespace L2
open PySem PySem.Spec PySem.Calls PyProof.Rows PySem.W SM
theorem isPart_of {v : Value} {o : Option Int} (h : IsPart v o) : ∃ l : Option (Int × Tok), v = partValue l ∧ l.map (·.1) = o := by
  cases h with
  | none => exact ⟨none, rfl, rfl⟩
  | int i t => exact ⟨some (i, t), rfl, rfl⟩
def rSlS : V → Option Int → Option Int → Hp → VK → Prop := fun x lo hi H Q => ∃ z, x = .str z ∧ z.length ≤ sizeLine ∧ Q (.str (Txt.slice z lo hi)) H
section
variable {X : Cx}
theorem sl_str : SlR X rSlS := by
  intro pins s σ H x v vl vu lo hi sl Q I rx hs pl pu h
  obtain ⟨z, rfl, hz, q⟩ := h
  obtain ⟨t, rfl⟩ := rx
  obtain ⟨l, rfl, rfl⟩ := isPart_of pl
  obtain ⟨u, rfl, rfl⟩ := isPart_of pu
  refine ⟨"str", _, F.slot_str_getitem.lookup, typeIs_str _ _ _, wpAny_getItem_str_slice (l := l) (u := u) (st := none) hs rfl ?_⟩
  exact post_val_or_str ⟨Nat.le_trans (Txt.slice_le z _ _) hz, fun t' k => ⟨.str _, H, I.tok _, ⟨_, rfl⟩, q⟩⟩
theorem pxs_set {i : Nat} {x : Str} {e : Expr} {te : XK → TE} {pos' pos : Pos} (hN : X.N.Nodup) (hi : X.N[i]? = some x) (hx : Loc X.env.scope x) (he : PXe X e te) (hs : swapsWith e (some (.Name x pos')) pos.line X.env = pure false := by rfl) (hf : X.fn x = true ∨ X.env.scope.names.lookup x = some .local := by first | exact .inl rfl | exact .inr rfl | assumption) :
    PXs X [.Assign [.Name x pos'] e pos] fun E => tAsg (te E) (gName i) := by
  intro pins s σ H D E I h
  refine wpAny_execs_cons (wpAny_Assign_Name (thn (he pins s σ H _ E I h) fun v s1 ⟨y, H1, I1, r1, q1⟩ => ?_) hs)
  exact store_ok I1 hN hi hx r1 (fun s2 I2 => wpAny_execs_nil ⟨_, H1, I2, q1⟩) hf
end
theorem asc_iff {z : Str} : Asc z ↔ ∀ c ∈ z.cps.toList, c < 128 := by
  unfold Asc
  rw [Array.all_eq_true_iff_forall_mem]
  exact ⟨fun h c hc => of_decide_eq_true (h c (Array.mem_toList_iff.mp hc)), fun h c hc => decide_eq_true (h c (Array.mem_toList_iff.mpr hc))⟩
theorem asc_tx {l : List Nat} : Asc (tx l) ↔ ∀ c ∈ l, c < 128 := by
  rw [asc_iff]
  simp [tx]
theorem Asc.slice {z : Str} (h : Asc z) (lo hi : Option Int) : Asc (Txt.slice z lo hi) := by
  unfold Txt.slice
  split
  · exact h
  · rw [asc_iff] at h ⊢
    intro c hc
    simp only [List.mem_filterMap] at hc
    obtain ⟨i, _, e⟩ := hc
    exact h c (Array.mem_toList_iff.mpr (Array.mem_of_getElem? e))
theorem str_app (y z : Str) : (y ++ z).cps.toList = y.cps.toList ++ z.cps.toList := by
  show (y.cps ++ z.cps).toList = _
  simp
theorem Asc.app {y z : Str} (h : Asc y) (k : Asc z) : Asc (y ++ z) := by
  rw [asc_iff] at h k ⊢
  intro c hc
  rw [str_app] at hc
  rcases List.mem_append.mp hc with e | e
  · exact h c e
  · exact k c e
theorem app_len (y z : Str) : (y ++ z).length = y.length + z.length := by
  show (y.cps ++ z.cps).size = _
  simp [Str.length]
end L2
namespace L2
open PySem PySem.Spec PySem.Calls PyProof.Rows PySem.W
theorem all_range (bs : List Bool) : (List.range bs.length).all (fun i => bs.getD i false) = bs.all id := by
  rw [Bool.eq_iff_iff, List.all_eq_true, List.all_eq_true]
  constructor
  · intro h b hb
    obtain ⟨i, hi, e⟩ := List.getElem_of_mem hb
    have := h i (List.mem_range.mpr hi)
    rw [List.getD_eq_getElem?_getD, List.getElem?_eq_getElem hi, e] at this
    exact this
  · intro h i hi
    have hi := List.mem_range.mp hi
    rw [List.getD_eq_getElem?_getD, List.getElem?_eq_getElem hi]
    exact h _ (List.getElem_mem hi)
theorem call_allB {X : Cx} (hc : X.calm = true) : CallR X (.builtin "all") (fun vs H Q => ∃ (a : Addr) (bs : List Bool), vs = [.ref a] ∧ SqL X.K H a (bs.map V.bl) ∧ Q (.bl (bs.all id)) H) := by
  intro pins s σ H xs us Q I r h
  obtain ⟨a, bs, rfl, hq, q⟩ := h
  obtain ⟨u, rfl, r1⟩ := Vals.one r
  cases r1
  obtain ⟨its, rv, pl, hz⟩ := I.list hq
  have hl := pl.isList
  have la : a < s.heap.objs.size := by obtain ⟨o, e, _⟩ := hl; exact Heap.lt_size e
  have ne : a ≠ s.heap.objs.size := Nat.ne_of_lt la
  refine call_all_walkS (wpAny_pyIter_list hl ?_)
  have WS := (Walks.list (prog := X.prog) (w := X.w) (A := X.A.in1) (I.ok.hd hc) s.heap.objs.size a ne its.toArray).toS
  refine ⟨_, _, _, _, _, _, _, fun i => bs.getD i false, rfl, WS, ⟨⟨_, Heap.get?_push_size _ rfl, rfl, rfl⟩, hl.push _⟩, fun i v s' Q' E' hv hq' => ?_, fun s' mv => ?_⟩
  · have hv' : its[i]? = some v := by simpa using hv
    have hi : i < (bs.map V.bl).length := by rw [rv.length]; exact (List.getElem?_eq_some_iff.mp hv').1
    obtain ⟨u, e1, r2⟩ := rv.get (List.getElem?_eq_getElem hi)
    rw [hv'] at e1
    cases e1
    rw [List.length_map] at hi
    rw [List.getElem_map] at r2
    cases r2
    have hq2 : Q' (bs.getD i false) s' := hq'
    rw [List.getD_eq_getElem?_getD, List.getElem?_eq_getElem hi] at hq2
    exact wpAny_truthy_bool hq2
  · have e : (List.range its.toArray.size).all (fun i => bs.getD i false) = bs.all id := by
      have : its.toArray.size = bs.length := by
        have := rv.length
        rw [List.length_map] at this
        simp [this]
      rw [this]
      exact all_range bs
    rw [e, Moved.eq_with mv]
    refine ⟨.bl (bs.all id), H, I.kept fun b o e => mv.heap b o (fun z => ?_) (Heap.get?_push_of_some _ e), rfl, q⟩
    exact absurd (Heap.lt_size e) (by rw [List.mem_singleton.mp z]; exact Nat.lt_irrefl _)
end L2
namespace L2
open PySem PySem.Spec PySem.Calls PyProof.Rows PySem.W
def TM (K : PySem.W.Frag) (C : Addr) (x qual : Str) (st : Stmt) : Prop := ∃ f fd, Fun K x qual st f fd ∧ Meth K C x f
theorem tm_mk {K : PySem.W.Frag} {C : Addr} {x qual : Str} {st : Stmt} {f : Addr} {oc : Value} {od an : Option Addr} {osl : Array (Option Value)} {kV doc pm cdv ct : Value}
    (a : PySem.W.findIn K (.ref C) x = some (some (.ref f))) (i : PySem.W.isFn K (.ref f) = true) (l : K.lookup f = some ⟨oc, od, .func (PySem.W.fnOf x qual (defArgs st) (defBody st) (defScope st) .none kV doc pm an cdv ct), osl⟩) (c : PySem.W.codeIn K cdv qual = true) (k : PySem.W.keepIn K (.ref f) = true) : TM K C x qual st :=
  ⟨f, _, fun_mk l c k, a, i, k⟩
def HasM (P : Program) (w : World) (K : PySem.W.Frag) (mg : Str → Option Value) (base : Heap) (k : Nat) (C : Addr) (x : Str) (ps : List Str) (sp : Sp) : Prop :=
  ∃ f fd, FnOk P w K mg base CX0 k f fd ps sp ∧ (∀ us : List Value, us.length = ps.length → bindArgs fd ⟨us, []⟩ = pure (ps.zip us)) ∧ Meth K C x f
theorem HasM.mono {P : Program} {w : World} {K : PySem.W.Frag} {mg : Str → Option Value} {base : Heap} {j k : Nat} {C : Addr} {x : Str} {ps : List Str} {sp : Sp} (h : HasM P w K mg base j C x ps sp) (hk : j ≤ k) : HasM P w K mg base k C x ps sp :=
  let ⟨f, fd, F, b⟩ := h
  ⟨f, fd, F.mono hk, b⟩
theorem TM.has {P : Program} {w : World} {K : PySem.W.Frag} {mg : Str → Option Value} {base : Heap} {C : Addr} {x qual : Str} {st : Stmt} {N ps : List Str} {k : Nat} {sp : Sp} (T : TM K C x qual st) (S : FnScope N ps (defScope st))
    (hb : ∀ (kV doc pm : Value) (an : Option Addr) (cdv ct : Value) (us : List Value), us.length = ps.length → bindArgs (PySem.W.fnOf x qual (defArgs st) (defBody st) (defScope st) .none kV doc pm an cdv ct) ⟨us, []⟩ = pure (ps.zip us))
    (len : ∀ vs H Q E, sp vs H Q E → vs.length = ps.length)
    (hbody : ∀ (f : Addr) (cdv : Value) (A : Around) (outer : List Env) (s : Shared) (H : Hp) (vs : List V) (Q : VK) (E : XK), Room k (A.deeper (envOfC qual (defScope st) s.heap.objs.size f cdv)) → sp vs H Q E →
      ∃ t, PSs (cxOf CX0 P w K mg base N qual (defScope st) f cdv A outer s H E).nox (defBody st) t ∧ t { nx := fun _ H' => Q .non H', rt := Q } (start N vs) H) : HasM P w K mg base (k + 1) C x ps sp := by
  obtain ⟨f, fd, F, m⟩ := T
  have ok := F.ok (P := P) (w := w) (mg := mg) (base := base) S len fun cdv A outer s H vs Q E hr hsp => hbody f cdv A outer s H vs Q E hr hsp
  obtain ⟨oc, od, kV, doc, pm, an, cdv, ct, osl, rfl, lk, hcd⟩ := F.ex
  exact ⟨f, _, ok, hb kV doc pm an cdv ct, m⟩
section
variable {X : Cx} {k : Nat} {C : Addr} {ps : List Str} {sp : Sp} {x m : Str} {p pos apos : Pos} {e o : Expr} {es : List Expr} {ta : TE} {t : TA}
theorem pe_mth {pl : Sem Bool} (he : PE X o ta) (c : Cls X.K C) (h : HasM X.prog X.w X.K X.mg X.base k C m ps sp) (hr : Room k X.A) (ha : PA X (e :: es) t)
    (hst : starEach (e :: es) X.env = (false, eval e X.env) :: starEach es X.env := by rfl) (hpl : (backTo pos (starEach es X.env)).any (·.1) = false := by rfl)
    (ht : eval (.Call (.Attribute o m apos) (e :: es) [] pos) X.env = (do
      let ov ← eval o X.env
      standAt apos.atName
      let (f, first) ← holding [ov] (getMethod ov m pl)
      callWith pos f first (backTo pos (starEach (e :: es) X.env)) (backToKw pos (keywordEach [] X.env))) := by rfl) :
    PE X (.Call (.Attribute o m apos) (e :: es) [] pos) (tMeth C m sp [] E0 ta t) := by
  obtain ⟨f, fd, F, hb, hm⟩ := h
  exact pe_meth he c hm F hr (.all hb) .nil pass0 ha hst hpl ht
theorem pe_mk (h : HasM X.prog X.w X.K X.mg X.base k C "__init__" ps sp) (mk : PySem.W.makesIn X.K C = true) (kc : PySem.W.keepIn X.K (.ref C) = true) (hr : Room (k + 1) X.A) (hg : Gl X x) (hm : X.mg x = some (.ref C))
    (ha : PA X (e :: es) t) (hdb : (x == ("__debug__" : Str)) = false := by decide) (he : starEach (e :: es) X.env = (false, eval e X.env) :: starEach es X.env := by rfl) (hpl : (backTo pos (starEach es X.env)).any (·.1) = false := by rfl) :
    PE X (.Call (.Name x p) (e :: es) [] pos) (tMake C sp [] E0 t) := by
  obtain ⟨f, fd, F, hb, hM⟩ := h
  exact pe_make ⟨mk, hM.at_, hM.fn, kc⟩ F hr hg hm (.all hb) .nil pass0 ha hdb he hpl
end
def tFmt (te : TE) : TE := fun σ H Q => te σ H fun x H1 => (∃ i, x = .int i ∧ i.natAbs.log2 < 1920 ∧ Q (.str (toString i)) H1) ∨ ∃ z, x = .str z ∧ z.length ≤ sizeLine ∧ Q (.str z) H1
abbrev TJ := Str → TE
def jNil : TJ := fun acc _ H Q => acc.length ≤ sizeLine ∧ Q (.str acc) H
def jCons (te : TE) (tj : TJ) : TJ := fun acc σ H Q => te σ H fun x H1 => ∃ z, x = .str z ∧ (acc ++ z).length ≤ sizeLine ∧ tj (acc ++ z) σ H1 Q
def tJoin (tj : TJ) : TE := fun σ H Q => tj Str.empty σ H Q
section
variable {σ : St} {H : Hp} {Q : VK} {te : TE} {tj : TJ} {acc : Str}
theorem tFmt_ap : tFmt te σ H Q = te σ H fun x H1 => (∃ i, x = .int i ∧ i.natAbs.log2 < 1920 ∧ Q (.str (toString i)) H1) ∨ ∃ z, x = .str z ∧ z.length ≤ sizeLine ∧ Q (.str z) H1 := rfl
theorem jNil_ap : jNil acc σ H Q = (acc.length ≤ sizeLine ∧ Q (.str acc) H) := rfl
theorem jCons_ap : jCons te tj acc σ H Q = te σ H fun x H1 => ∃ z, x = .str z ∧ (acc ++ z).length ≤ sizeLine ∧ tj (acc ++ z) σ H1 Q := rfl
theorem tJoin_ap : tJoin tj σ H Q = tj Str.empty σ H Q := rfl
end
section
variable {X : Cx} {e a b : Expr} {es : List Expr} {te : TE} {tj : TJ} {pos : Pos}
def PJ (X : Cx) (es : List Expr) (tj : TJ) : Prop := ∀ (pins : List (Addr × Obj)) (s : Shared) (σ : St) (H : Hp) (acc : Str) (Q : VK), Inv X pins σ H s → tj acc σ H Q → wpAny (model X.prog X.w) X.A (joinParts acc (evalEach es X.env)) (EP X pins σ Q) X.xe s
theorem pj_nil : PJ X [] jNil := by
  intro pins s σ H acc Q I h
  exact joinParts_nil ⟨.str acc, H, I.tok _, ⟨_, rfl⟩, h.2⟩ h.1
theorem pj_cons (he : PE X e te) (hj : PJ X es tj) : PJ X (e :: es) (jCons te tj) := by
  intro pins s σ H acc Q I h
  refine joinParts_cons (thn (he pins s σ H _ I h) fun v s1 ⟨x, H1, I1, r1, q1⟩ => ?_)
  obtain ⟨z, rfl, hz, q⟩ := q1
  obtain ⟨t, rfl⟩ := r1
  exact ⟨hz, hj pins s1 σ H1 _ Q I1 q⟩
theorem pe_join (hj : PJ X (a :: b :: es) tj) : PE X (.JoinedStr (a :: b :: es) pos) (tJoin tj) := by
  intro pins s σ H Q I h
  exact JoinedStr_many (hj pins s σ H _ Q I h)
theorem pe_fmt (he : PE X e te) : PE X (.FormattedValue e (-1) none pos) (tFmt te) := by
  intro pins s σ H Q I h
  refine FormattedValue_plain (thn (he pins s σ H _ I h) fun v s1 ⟨x, H1, I1, r1, q1⟩ => ?_)
  rcases q1 with ⟨i, rfl, hi, q⟩ | ⟨z, rfl, hz, q⟩
  · obtain ⟨t, rfl⟩ := r1
    exact formatField_int_small hi ⟨.str _, H1, I1.tok _, ⟨_, rfl⟩, q⟩
  · obtain ⟨t, rfl⟩ := r1
    exact formatField_str (fun t' tk => ⟨.str _, H1, I1.tok _, ⟨_, rfl⟩, q⟩) hz
theorem mt_startsF : MtR X "str.startswith" (fun x vs H Q => ∃ (z y : Str) (i : Int), x = .str z ∧ vs = [.str y, .int i] ∧ Q (.bl (decide (PySem.fromIndex z.length i + y.length ≤ z.length) && Builtin.Str.subAt z y (PySem.fromIndex z.length i))) H) := by
  intro pins s σ H x vs v us Q I rx rs h
  obtain ⟨z, y, i, rfl, rfl, q⟩ := h
  obtain ⟨t, rfl⟩ := rx
  obtain ⟨u, w, rfl, r1, r2⟩ := Vals.two rs
  obtain ⟨t1, rfl⟩ := r1
  obtain ⟨t2, rfl⟩ := r2
  exact call_gives PySem.F.slot_str_startswith (typeIs_str _ _ _) PySem.F.entry_str_startswith (PySem.F.args_str_startswith_3 _ _ _) (gives_str_startswith_from z y i t t1 t2) ⟨.bl _, H, I.tok _, rfl, q⟩
end
section
variable {K : PySem.W.Frag} {σ : St} {H : Hp} {Q : VK} {D : Ends} {ta tv : TE} {t : TA} {f m : Str} {C : Addr} {sp : Sp} {dvs : List V} {E : XK} {rd : V → V → Hp → VK → Prop}
theorem tFld_ap : tFld K ta f σ H Q = ta σ H fun x H1 => ∃ a C dx fs v, x = .ref a ∧ H1 a = some (.ins C dx fs) ∧ Cls K C ∧ NoAttr K C f ∧ fs.lookup f = some v ∧ Q v H1 := rfl
theorem sFld_ap : sFld K ta tv f D σ H = tv σ H fun y H1 => ta σ H1 fun x H2 => ∃ a C dx fs, x = .ref a ∧ H2 a = some (.ins C dx fs) ∧ Cls K C ∧ NoAttr K C f ∧ fs.length < 1000 ∧ D.nx σ (upd H2 a (.ins C dx (putF f y fs))) := rfl
theorem sFldAug_ap : sFldAug K ta tv rd f D σ H = ta σ H fun x H1 => ∃ a C dx fs v, x = .ref a ∧ H1 a = some (.ins C dx fs) ∧ Cls K C ∧ NoAttr K C f ∧ fs.lookup f = some v ∧ tv σ H1 fun y H2 => rd v y H2 fun z H3 => ∃ dx' fs', H3 a = some (.ins C dx' fs') ∧ fs'.length < 1000 ∧ D.nx σ (upd H3 a (.ins C dx' (putF f z fs'))) := rfl
theorem tMeth_ap : tMeth C m sp dvs E ta t σ H Q = ta σ H fun x H1 => ∃ a dx fs, x = .ref a ∧ H1 a = some (.ins C dx fs) ∧ fs.lookup m = none ∧ t σ H1 fun vs H2 => sp (x :: (vs ++ dvs)) H2 Q E := rfl
theorem tMake_ap : tMake C sp dvs E t σ H Q = t σ H fun vs H1 => ∀ x dx, H1 x = none → H1 dx = none → dx ≠ x → sp (.ref x :: (vs ++ dvs)) (upd (upd H1 dx (.own x)) x (.ins C dx [])) (fun v H2 => v = .non ∧ Q (.ref x) H2) E := rfl
end
end L2
namespace L2
open PySem PySem.Spec PySem.Calls PyProof.Rows PySem.W
def HasMX (P : Program) (w : World) (K : PySem.W.Frag) (mg : Str → Option Value) (base : Heap) (k : Nat) (C : Addr) (x : Str) (ps : List Str) (sp : Sp) : Prop :=
  ∃ f fd, FnOk P w K mg base (CXx P w) k f fd ps sp ∧ (∀ us : List Value, us.length = ps.length → bindArgs fd ⟨us, []⟩ = pure (ps.zip us)) ∧ Meth K C x f
theorem HasMX.mono {P : Program} {w : World} {K : PySem.W.Frag} {mg : Str → Option Value} {base : Heap} {j k : Nat} {C : Addr} {x : Str} {ps : List Str} {sp : Sp} (h : HasMX P w K mg base j C x ps sp) (hk : j ≤ k) : HasMX P w K mg base k C x ps sp :=
  let ⟨f, fd, F, b⟩ := h
  ⟨f, fd, F.mono hk, b⟩
theorem TM.hasX {P : Program} {w : World} {K : PySem.W.Frag} {mg : Str → Option Value} {base : Heap} {C : Addr} {x qual : Str} {st : Stmt} {N ps : List Str} {k : Nat} {sp : Sp} (T : TM K C x qual st) (S : FnScope N ps (defScope st))
    (hb : ∀ (kV doc pm : Value) (an : Option Addr) (cdv ct : Value) (us : List Value), us.length = ps.length → bindArgs (PySem.W.fnOf x qual (defArgs st) (defBody st) (defScope st) .none kV doc pm an cdv ct) ⟨us, []⟩ = pure (ps.zip us))
    (len : ∀ vs H Q E, sp vs H Q E → vs.length = ps.length)
    (hbody : ∀ (f : Addr) (cdv : Value) (A : Around) (outer : List Env) (s : Shared) (H : Hp) (vs : List V) (Q : VK) (E : XK), Room k (A.deeper (envOfC qual (defScope st) s.heap.objs.size f cdv)) → sp vs H Q E →
      ∃ t, PSs (cxOf (CXx P w) P w K mg base N qual (defScope st) f cdv A outer s H E) (defBody st) t ∧ t { nx := fun _ H' => Q .non H', rt := Q } (start N vs) H) : HasMX P w K mg base (k + 1) C x ps sp := by
  obtain ⟨f, fd, F, m⟩ := T
  obtain ⟨oc, od, kV, doc, pm, an, cdv, ct, osl, rfl, lk, hcd⟩ := F.ex
  exact ⟨f, _, fn_of lk hcd S len fun A outer s H vs Q E hr hsp => hbody f cdv A outer s H vs Q E hr hsp, hb kV doc pm an cdv ct, m⟩
section
variable {X : Cx} {k : Nat} {C : Addr} {ps : List Str} {sp : Sp} {x m : Str} {p pos apos : Pos} {e o : Expr} {es : List Expr} {ta : TE} {t : TA} {E : XK}
theorem pe_mthX {pl : Sem Bool} (he : PE X o ta) (c : Cls X.K C) (h : HasMX X.prog X.w X.K X.mg X.base k C m ps sp) (hr : Room k X.A) (hx : Passes (CXx X.prog X.w) X E) (ha : PA X (e :: es) t)
    (hst : starEach (e :: es) X.env = (false, eval e X.env) :: starEach es X.env := by rfl) (hpl : (backTo pos (starEach es X.env)).any (·.1) = false := by rfl)
    (ht : eval (.Call (.Attribute o m apos) (e :: es) [] pos) X.env = (do
      let ov ← eval o X.env
      standAt apos.atName
      let (f, first) ← holding [ov] (getMethod ov m pl)
      callWith pos f first (backTo pos (starEach (e :: es) X.env)) (backToKw pos (keywordEach [] X.env))) := by rfl) :
    PE X (.Call (.Attribute o m apos) (e :: es) [] pos) (tMeth C m sp [] E ta t) := by
  obtain ⟨f, fd, F, hb, hm⟩ := h
  exact pe_meth he c hm F hr (.all hb) .nil hx ha hst hpl ht
theorem pe_mth0X {pl : Sem Bool} (he : PE X o ta) (c : Cls X.K C) (h : HasMX X.prog X.w X.K X.mg X.base k C m ps sp) (hr : Room k X.A) (hx : Passes (CXx X.prog X.w) X E)
    (ht : eval (.Call (.Attribute o m apos) [] [] pos) X.env = (do
      let ov ← eval o X.env
      standAt apos.atName
      let (f, first) ← holding [ov] (getMethod ov m pl)
      callWith pos f first (backTo pos (starEach [] X.env)) (backToKw pos (keywordEach [] X.env))) := by rfl) :
    PE X (.Call (.Attribute o m apos) [] [] pos) (tMeth C m sp [] E ta tNil) := by
  obtain ⟨f, fd, F, hb, hm⟩ := h
  exact pe_meth0 he c hm F hr (.all hb) .nil hx ht
end
end L2
namespace L2
open PySem PySem.Spec PyProof.Rows SM
section
variable {X : Cx}
theorem call_int_bl : CallR X (.type "int") (fun xs H Q => ∃ b, xs = [.bl b] ∧ Q (.int (if b then 1 else 0)) H) := by
  intro pins s σ H xs us Q I r h
  obtain ⟨b, rfl, q⟩ := h
  obtain ⟨u, rfl, rfl⟩ := Vals.one r
  exact PySem.call_int_bool ⟨.int _, H, I.tok _, ⟨_, rfl⟩, q⟩
theorem op_mul_strW : OpR X (binaryOp .Mult) (fun x y H Q => ∃ z n, x = .str z ∧ y = .int n ∧ z.length ≤ 16 ∧ 0 ≤ n ∧ n ≤ 1048576 ∧ Q (.str (Txt.mul z n)) H) := by
  intro pins s σ H x y v u Q I rx ry h
  obtain ⟨z, n, rfl, rfl, h1, h0, h2, q⟩ := h
  obtain ⟨t, rfl⟩ := rx
  obtain ⟨t2, rfl⟩ := ry
  exact SB.mul (mulOk_of 16 1048576 h1 h2 (by omega) (by decide) (by decide)) fun t' k => ⟨.str _, H, I.tok _, ⟨_, rfl⟩, q⟩
end
theorem mul_cps (z : Str) (n : Int) : ∀ c ∈ (Txt.mul z n).cps.toList, c ∈ z.cps.toList := by
  intro c hc
  unfold Txt.mul at hc
  split at hc
  · simp [Str.empty] at hc
  · split at hc
    · exact hc
    · have key : ∀ (l : List (Array Nat)) (a : Array Nat), c ∈ (l.foldl (· ++ ·) a).toList → c ∈ a.toList ∨ ∃ b ∈ l, c ∈ b.toList := by
        intro l
        induction l with
        | nil => exact fun a h => .inl h
        | cons x l ih =>
          intro a h
          rcases ih _ h with z | ⟨b, hb, z⟩
          · rw [Array.toList_append] at z
            rcases List.mem_append.mp z with z | z
            · exact .inl z
            · exact .inr ⟨x, by simp, z⟩
          · exact .inr ⟨b, by simp [hb], z⟩
      rcases key _ _ hc with z | ⟨b, hb, z⟩
      · simp at z
      · rw [(List.mem_replicate.mp hb).2] at z
        exact z
theorem mul_len (z : Str) (n : Int) (h : 0 ≤ n) : ((Txt.mul z n).length : Int) = (z.length : Int) * n := by
  have e := len_mul z n
  rw [if_neg (fun c => absurd (of_decide_eq_true c) (by omega))] at e
  exact e
end L2
namespace SM
open L2 PySem PySem.Builtin.Str
end SM
namespace L2
open PySem PySem.Spec PySem.Calls PyProof.Rows PySem.W SM
section
variable {X : Cx}
end
inductive CPairs (w : World) (K : PySem.W.Frag) : List DictEntry → List (Str × List Str) → Prop
  | nil : CPairs w K [] []
  | cons {e : DictEntry} {es : List DictEntry} {x : Str} {t : Tok} {ys : List Str} {tb : List (Str × List Str)} {b : Addr} {o : Obj} {its : Array Value} {n : Nat} : e.key = .str x t → e.hash = hashStr w x → e.val = .ref b → K.lookup b = some o → o.cls = .type "tuple" → o.data = .seq its n → its.size ≤ sizeLine → Vals (ys.map V.str) its.toList → CPairs w K es tb → CPairs w K (e :: es) ((x, ys) :: tb)
section
variable {X : Cx} {σ : St} {H : Hp} {Q : VK} {D : Ends} {td ty tv : TE} {e : Expr}
end
end L2
namespace L2
open PySem PySem.Spec PyProof.Rows
section
variable {prog : Program} {w : World} {A : Around} {E : Value → Shared → Prop} {s : Shared}
end
section
variable {X : Cx} {es : List Expr} {k : Nat} {tpos : Pos}
end
end L2
set_option maxHeartbeats 4000000
open PySem L2 SM
local macro_rules | `(tactic| walk_at "wp") => `(tactic| try simp only [tSeq_ap, tIfS_ap, tAsg_ap, gName_ap, tRet_ap, tRetN_ap, tNext_ap, tBreak_ap, tCont_ap, tDrop_ap, tC_ap, tVar_0, tVar_s, tOp_ap, tUn_ap, rI0_ap, rI_ap, rU_ap, rEq_int, rNe_int, tTest_ap, tB_ap, ex_bl, ex_ref, ex_int, tAnd_ap, tOr_ap, tNot_ap, tAndV_ap, tOrV_ap, tNotV_ap, tIf_ap, tNil_ap, tCons_ap, tTup_ap, tLst_ap, tCall_ap, tCB_ap, tChain_ap, tPar_ap, ex_two, tAug_ap, ipI_ap, tSl_ap, tNoPart_ap, tPart_ap, tBM_ap, tBM0_ap, tTrue_ap, gSub_ap, gCons_ap, gNil_ap, tFor_ap, iRng1_ap, iRng2_ap, iRngA_ap, iRng3_ap, iRngN_ap, iRevR_ap, tRng_ap, iList_ap, iTup_ap, iRev_ap, iZip_ap, iZip3_ap, iEnum_ap, iEnumT_ap, iStr_ap, tFmt_ap, jNil_ap, jCons_ap, tJoin_ap, tFld_ap, sFld_ap, sFldAug_ap, tMeth_ap, tMake_ap, tListRev_ap, tMinD_ap, tMaxD_ap, tComp_ap, ite_and, L2.start, cxOf_K, cxComp_K, cxCompX_K, List.map_cons, List.map_nil, List.length_cons, List.length_nil, List.replicate, List.cons_append, List.nil_append, List.append_nil, List.set_cons_zero, List.set_cons_succ, decide_eq_true_eq, Bool.not_eq_true', decide_eq_false_iff_not, Bool.not_eq_eq_eq_not, Bool.not_true, Bool.not_false, sizeLine_eq, oV, reduceCtorEq, isI_ii, isI_ib, isI_ni, isI_bb, Nat.reduceAdd, Nat.reduceSub, Nat.reduceLeDiff, Nat.zero_add, true_and, and_true, forall_const, Bool.false_eq_true, if_true, if_false, false_implies, true_implies, not_false_eq_true, not_true_eq_false, implies_true])
seal L2.PSs L2.PS L2.PE L2.PT L2.PA L2.PI L2.PG L2.PTs L2.PW L2.OpR
namespace SMk74
open PySem L2 SM
def top (i : Nat) : Stmt := PySem.Challenge.pw_shiftmeet_k74_papers_refused.main.body.getD i (.Pass ⟨0, 0, 0, 0⟩)
abbrev s_read_number : Stmt := top 13
abbrev s_is_figures : Stmt := top 14
abbrev s_shown_paper : Stmt := top 15
abbrev s_read_paper : Stmt := top 16
abbrev s_law_cell_at : Stmt := top 19
abbrev s_law_good : Stmt := top 20
abbrev s_law_deep : Stmt := top 21
abbrev s_law_odd : Stmt := top 22
abbrev s_law_text : Stmt := top 23
abbrev s_law_figures_end : Stmt := top 24
abbrev s_law_knot_end : Stmt := top 25
abbrev s_law_writes : Stmt := top 26
abbrev s_law_other : Stmt := top 27
abbrev s_law : Stmt := top 28
abbrev s_PaperReader___init__ : Stmt := inClass (top 17) 0
abbrev s_PaperReader_next_paper : Stmt := inClass (top 17) 1
abbrev s_PaperReader_next_papers : Stmt := inClass (top 17) 2
abbrev s_PaperReader_next_number : Stmt := inClass (top 17) 3
abbrev s_PaperReader_needs : Stmt := inClass (top 17) 4
abbrev s_PaperReader_passes : Stmt := inClass (top 17) 5
theorem sc_read_number : FnScope ["text"] ["text"] (defScope s_read_number) := ⟨rfl, rfl, rfl, by decide +kernel, rfl, by decide +kernel, by decide +kernel⟩
theorem sc_is_figures : FnScope ["text", "most"] ["text", "most"] (defScope s_is_figures) := ⟨rfl, rfl, rfl, by decide +kernel, rfl, by decide +kernel, by decide +kernel⟩
theorem sc_shown_paper : FnScope ["paper", "number", "papers"] ["paper"] (defScope s_shown_paper) := ⟨rfl, rfl, rfl, by decide +kernel, rfl, by decide +kernel, by decide +kernel⟩
theorem sc_read_paper : FnScope ["text", "reader", "paper"] ["text"] (defScope s_read_paper) := ⟨rfl, rfl, rfl, by decide +kernel, rfl, by decide +kernel, by decide +kernel⟩
theorem sc_law_cell_at : FnScope ["script", "k"] ["script", "k"] (defScope s_law_cell_at) := ⟨rfl, rfl, rfl, by decide +kernel, rfl, by decide +kernel, by decide +kernel⟩
theorem sc_law_good : FnScope ["cells", "pile", "cell", "many", "at", "number"] ["cells"] (defScope s_law_good) := ⟨rfl, rfl, rfl, by decide +kernel, rfl, by decide +kernel, by decide +kernel⟩
theorem sc_law_deep : FnScope ["cell", "text", "many"] ["cell"] (defScope s_law_deep) := ⟨rfl, rfl, rfl, by decide +kernel, rfl, by decide +kernel, by decide +kernel⟩
theorem sc_law_odd : FnScope ["cell", "some"] ["cell"] (defScope s_law_odd) := ⟨rfl, rfl, rfl, by decide +kernel, rfl, by decide +kernel, by decide +kernel⟩
theorem sc_law_text : FnScope ["script", "cell", "way", "text", "at", "sign"] ["script"] (defScope s_law_text) := ⟨rfl, rfl, rfl, by decide +kernel, rfl, by decide +kernel, by decide +kernel⟩
theorem sc_law_figures_end : FnScope ["text", "at", "end"] ["text", "at"] (defScope s_law_figures_end) := ⟨rfl, rfl, rfl, by decide +kernel, rfl, by decide +kernel, by decide +kernel⟩
theorem sc_law_knot_end : FnScope ["text", "at", "end"] ["text", "at"] (defScope s_law_knot_end) := ⟨rfl, rfl, rfl, by decide +kernel, rfl, by decide +kernel, by decide +kernel⟩
theorem sc_law_writes : FnScope ["text", "at", "inside", "wanted", "opens"] ["text"] (defScope s_law_writes) := ⟨rfl, rfl, rfl, by decide +kernel, rfl, by decide +kernel, by decide +kernel⟩
theorem sc_law_other : FnScope ["e"] ["e"] (defScope s_law_other) := ⟨rfl, rfl, rfl, by decide +kernel, rfl, by decide +kernel, by decide +kernel⟩
theorem sc_law : FnScope ["script", "text", "told", "caught", "e"] ["script"] (defScope s_law) := ⟨rfl, rfl, rfl, by decide +kernel, rfl, by decide +kernel, by decide +kernel⟩
theorem sc_PaperReader___init__ : FnScope ["self", "text"] ["self", "text"] (defScope s_PaperReader___init__) := ⟨rfl, rfl, rfl, by decide +kernel, rfl, by decide +kernel, by decide +kernel⟩
theorem sc_PaperReader_next_paper : FnScope ["self", "above", "by"] ["self", "above"] (defScope s_PaperReader_next_paper) := ⟨rfl, rfl, rfl, by decide +kernel, rfl, by decide +kernel, by decide +kernel⟩
theorem sc_PaperReader_next_papers : FnScope ["self", "above", "papers"] ["self", "above"] (defScope s_PaperReader_next_papers) := ⟨rfl, rfl, rfl, by decide +kernel, rfl, by decide +kernel, by decide +kernel⟩
theorem sc_PaperReader_next_number : FnScope ["self", "begin"] ["self"] (defScope s_PaperReader_next_number) := ⟨rfl, rfl, rfl, by decide +kernel, rfl, by decide +kernel, by decide +kernel⟩
theorem sc_PaperReader_needs : FnScope ["self", "signs"] ["self", "signs"] (defScope s_PaperReader_needs) := ⟨rfl, rfl, rfl, by decide +kernel, rfl, by decide +kernel, by decide +kernel⟩
theorem sc_PaperReader_passes : FnScope ["self", "signs"] ["self", "signs"] (defScope s_PaperReader_passes) := ⟨rfl, rfl, rfl, by decide +kernel, rfl, by decide +kernel, by decide +kernel⟩
section
variable {P : Program} {w : World} {K : PySem.W.Frag} {mg : Str → Option Value} {base : Heap}
theorem modB (x : Int) {m : Int} (h : 0 < m) : 0 ≤ x % m ∧ x % m < m := ⟨Int.emod_nonneg _ (by omega), Int.emod_lt_of_pos _ h⟩
theorem getD_all {Pz : Int → Prop} {zs : List Int} {i : Nat} (h : ∀ z ∈ zs, Pz z) (hi : i < zs.length) : Pz (zs.getD i 0) := by
  rw [List.getD_eq_getElem?_getD, List.getElem?_eq_getElem hi]
  exact h _ (List.getElem_mem hi)
def sp_cell_at (K : PySem.W.Frag) : Sp := fun vs H Q _ => ∃ (a : Addr) (ns : List Int) (k : Int), vs = [.ref a, .int k] ∧ SqL K H a (ns.map V.int) ∧ 0 ≤ k ∧ Q (.int (ns.getD k.toNat 0)) H
theorem h_law_cell_at (T : TF K mg "_law_cell_at" s_law_cell_at) (m_len : mg "len" = none) : Has P w K mg base 1 "_law_cell_at" ["script", "k"] (sp_cell_at K) := by
  refine T.has sc_law_cell_at (fun _ _ _ _ _ _ us hl => match us, hl with | [_, _], _ => rfl) (fun vs H Q E h => ?_) (fun f cdv A outer s H vs Q E hr h => ?_)
  · obtain ⟨a, ns, k, rfl, _⟩ := h
    rfl
  obtain ⟨a, ns, k, rfl, hS, hk, q⟩ := h
  refine ⟨_, (pss_cons (ps_if (pt_cmpR op_lt (pv 1) (pe_callB call_len_seq rfl m_len PySem.boot_len (pa_cons (pv 0) pa_nil)) (nomark _)) (pss_one (ps_ret (pe_ix ix_list (pv 0) (pv 1) (fun _ _ => rfl)))) pss_nil) (pss_one (ps_ret pe_int))), ?_⟩
  walk_at "wp"
  refine ⟨a, _, rfl, .inl hS, ?_⟩
  walk_at "wp"
  refine ⟨fun c => ?_, fun c => ?_⟩
  · rw [List.length_map] at c
    exact rIxL_mk hS (atI_getD hk c) q
  · rw [List.length_map] at c
    have e : ns.getD k.toNat 0 = 0 := by
      rw [List.getD_eq_getElem?_getD, List.getElem?_eq_none (by omega)]
      rfl
    rw [e] at q
    exact q

def dg (n : Int) : List Nat := (Str.ofString (toString n)).cps.toList
theorem dg_text (n : Int) : Str.ofString (toString n) = tx (dg n) := (tx_cps _).symm
structure DgOk (n : Int) : Prop where
  all : PySem.NumText.AllDigits (dg n)
  ne : dg n ≠ []
  val : ((PySem.NumText.digitsVal (dg n) : Nat) : Int) = n
  zero : (dg n)[0]? = some 48 → (dg n).length = 1
  len : (dg n).length ≤ 100
  sz : n.natAbs.log2 < 1920
theorem tx_list (l : List Nat) : (tx l).cps.toList = l := by simp [tx]
theorem tx_len (l : List Nat) : (tx l).length = l.length := by simp [tx, Str.length]
theorem dgOk {n : Int} (h0 : 0 ≤ n) (h1 : n < 10 ^ 100) : DgOk n := by
  obtain ⟨l, e, a, b, c, d, f⟩ := num_text h0
  have el : dg n = l := by
    unfold dg
    rw [e, tx_list]
  exact ⟨el ▸ a, el ▸ b, el ▸ c, el ▸ d, by rw [el]; exact f 99 h1, by
    by_cases z : n.natAbs = 0
    · rw [z]; decide
    · refine (Nat.log2_lt z).mpr (Nat.lt_of_lt_of_le (m := 10 ^ 100) (by omega) (by decide +kernel))⟩
def figB (c : Nat) : Bool := decide (48 ≤ c ∧ c ≤ 57)
def figsB (l : List Nat) : Bool := decide (1 ≤ l.length) && (decide (l.length ≤ 100) && (!(decide (l[0]? = some 48) && decide (1 < l.length)) && l.all figB))
def rdNum (l : List Nat) : Option Int := if figsB l = true then some ((PySem.NumText.digitsVal l : Nat) : Int) else none
theorem figs_iff {l : List Nat} : figsB l = true ↔ 1 ≤ l.length ∧ l.length ≤ 100 ∧ ¬ (l[0]? = some 48 ∧ 1 < l.length) ∧ ∀ c ∈ l, 48 ≤ c ∧ c ≤ 57 := by
  unfold figsB figB
  simp only [Bool.and_eq_true, decide_eq_true_eq, Bool.not_eq_true', Bool.and_eq_false_iff, decide_eq_false_iff_not, List.all_eq_true]
  constructor
  · rintro ⟨a, b, c, d⟩
    exact ⟨a, b, fun z => c.elim (fun k => k z.1) fun k => k z.2, d⟩
  · rintro ⟨a, b, c, d⟩
    refine ⟨a, b, ?_, d⟩
    by_cases e : l[0]? = some 48
    · exact .inr fun k => c ⟨e, k⟩
    · exact .inl e
theorem figs_read {l : List Nat} (h : figsB l = true) : intText? (tx l) = some ((PySem.NumText.digitsVal l : Nat) : Int) := by
  obtain ⟨a, b, _, d⟩ := figs_iff.mp h
  have e := intText_digits (x := tx l) (by rw [tx_list]; exact d) (by rw [tx_list]; exact fun z => by rw [z] at a; simp at a) (by rw [tx_len]; omega)
  rw [tx_list] at e
  exact e
def Sm (n : Nat) (z : Str) : Prop := z.length ≤ n ∧ Asc z
theorem Sm.mono {m n : Nat} {z : Str} (h : Sm m z) (k : m ≤ n) : Sm n z := ⟨Nat.le_trans h.1 k, h.2⟩
theorem sm_dg {n : Int} (h : DgOk n) : Sm 100 (Str.ofString (toString n)) := by
  rw [dg_text]
  refine ⟨by rw [tx_len]; exact h.len, asc_tx.mpr fun c hc => ?_⟩
  have := h.all c hc
  omega
theorem sm_all {n : Nat} {zs : List Str} (h : (zs.all fun z => decide (z.length ≤ n) && z.cps.all (· < 128)) = true) : ∀ z ∈ zs, Sm n z := fun z hz => by
  have := List.all_eq_true.mp h z hz
  rw [Bool.and_eq_true, decide_eq_true_eq] at this
  exact this
theorem ix_strs {D : Addr} {ys : List Str} {n : Nat} {i : Int} {H : Hp} {Q : VK} (hD : H D = some (.lst (ys.map V.str))) (h0 : 0 ≤ i) (h1 : i < ys.length) (hy : ∀ y ∈ ys, Sm n y) (q : ∀ z, Sm n z → Q (.str z) H) : rIxL K (.ref D) (.int i) H Q := by
  obtain ⟨j, rfl⟩ : ∃ j : Nat, i = (j : Int) := ⟨i.toNat, by omega⟩
  have hj : j < ys.length := by omega
  refine rIxL_mk (SqL.of hD) (v := .str ys[j]) (atI_nat ?_) (q _ (hy _ (List.getElem_mem hj)))
  rw [List.getElem?_map, List.getElem?_eq_getElem hj]
  rfl
def cutS (ys : List Str) (lo hi : Option Int) : List Str := (ys.drop (HT.sIx ys.length 0 lo)).take (HT.sIx ys.length ys.length hi - HT.sIx ys.length 0 lo)
theorem cutV_strs (ys : List Str) (lo hi : Option Int) : cutV (ys.map V.str) lo hi = (cutS ys lo hi).map V.str := by
  unfold cutV cutS
  rw [List.length_map, List.map_take, List.map_drop]
theorem Sm.app {m n : Nat} {y z : Str} (h : Sm m y) (k : Sm n z) : Sm (m + n) (y ++ z) := ⟨by rw [app_len]; exact Nat.add_le_add h.1 k.1, h.2.app k.2⟩
theorem Sm.cut {n : Nat} {z : Str} (h : Sm n z) (lo hi : Option Int) : Sm n (Txt.slice z lo hi) := ⟨Nat.le_trans (Txt.slice_le z lo hi) h.1, h.2.slice lo hi⟩

def inL : List Nat := [105, 110, 32]
def byL : List Nat := [98, 121, 32]
def opL : List Nat := [32, 40]
def cmL : List Nat := [44, 32]
def clL : List Nat := [41]
mutual
def ptx : Pap → List Nat
  | .inn k => inL ++ dg k
  | .par b ps => byL ++ (dg b ++ (opL ++ (ptxs ps ++ clL)))
def ptxs : List Pap → List Nat
  | [] => []
  | p :: ps => ptx p ++ ptxr ps
def ptxr : List Pap → List Nat
  | [] => []
  | p :: ps => cmL ++ (ptx p ++ ptxr ps)
end
mutual
def nums : Pap → List Int
  | .inn k => [k]
  | .par b ps => b :: numss ps
def numss : List Pap → List Int
  | [] => []
  | p :: ps => nums p ++ numss ps
end
def POk (p : Pap) : Prop := ∀ n ∈ nums p, DgOk n
def POks (ps : List Pap) : Prop := ∀ n ∈ numss ps, DgOk n
theorem POks.cons {p : Pap} {ps : List Pap} (h : POks (p :: ps)) : POk p ∧ POks ps := by
  unfold POks numss at h
  exact ⟨fun n hn => h n (by simp [hn]), fun n hn => h n (by simp [hn])⟩
theorem POk.par {b : Int} {ps : List Pap} (h : POk (.par b ps)) : DgOk b ∧ POks ps := by
  unfold POk nums at h
  exact ⟨h b (by simp), fun n hn => h n (by simp [hn])⟩
theorem POk.inn {k : Int} (h : POk (.inn k)) : DgOk k := h k (by simp [nums])
theorem POks.mem : ∀ {ps : List Pap}, POks ps → ∀ p ∈ ps, POk p
  | _ :: _, h, q, hq => by
    rcases List.mem_cons.mp hq with rfl | hq
    · exact h.cons.1
    · exact POks.mem h.cons.2 q hq
theorem ptxr_flat : ∀ ps : List Pap, ptxr ps = ps.flatMap fun p => cmL ++ ptx p
  | [] => rfl
  | p :: ps => by
    simp only [ptxr, List.flatMap_cons, ptxr_flat ps, List.append_assoc]
theorem glued_cm : ∀ ps : List Pap, Builtin.Str.glued (tx cmL) (ps.map fun p => tx (ptx p)) = tx (ptxs ps)
  | [] => by
    apply str_ext
    simp [Builtin.Str.glued, ptxs, Str.empty, tx]
  | p :: ps => by
    apply str_ext
    show (((ps.map fun p => tx (ptx p)).foldl (fun acc q => acc ++ (tx cmL).cps ++ q.cps) (tx (ptx p)).cps)).toList = _
    rw [glued_fold, tx_list, tx_list, tx_list]
    simp only [ptxs, ptxr_flat, List.flatMap_map, tx_list]
theorem inL_tx : Str.ofString "in " = tx inL := by decide +kernel
theorem byL_tx : Str.ofString "by " = tx byL := by decide +kernel
theorem opL_tx : Str.ofString " (" = tx opL := by decide +kernel
theorem cmL_tx : Str.ofString ", " = tx cmL := by decide +kernel
theorem clL_tx : Str.ofString ")" = tx clL := by decide +kernel
theorem tx_app (k l : List Nat) : tx k ++ tx l = tx (k ++ l) := by
  apply str_ext
  rw [str_app, tx_list, tx_list, tx_list]
theorem sub_at (l y : List Nat) (i : Nat) (hy : y.length ≠ 0) : (decide (i + (tx y).length ≤ (tx l).length) && Builtin.Str.subAt (tx l) (tx y) i) = decide ((l.drop i).take y.length = y) := by
  rw [tx_len, tx_len]
  have e : Builtin.Str.subAt (tx l) (tx y) i = decide ((l.drop i).take y.length = y) := by
    unfold Builtin.Str.subAt
    rw [Bool.eq_iff_iff, decide_eq_true_eq, beq_iff_eq, ← Array.toList_inj, Array.toList_extract, List.extract_eq_take_drop]
    have e1 : i + (tx y).length - i = y.length := by rw [tx_len]; omega
    rw [e1]
    show (List.take y.length (List.drop i (tx l).cps.toList)) = (tx y).cps.toList ↔ _
    rw [tx_list, tx_list]
  rw [e]
  by_cases c : (l.drop i).take y.length = y
  · rw [decide_eq_true c, Bool.and_true, decide_eq_true_eq]
    have := congrArg List.length c
    rw [List.length_take, List.length_drop] at this
    omega
  · rw [decide_eq_false c, Bool.and_false]
theorem slice_at {l : List Nat} {i j : Nat} (h : i ≤ j) (hj : j ≤ l.length) : Txt.slice (tx l) (some (i : Int)) (some (j : Int)) = tx ((l.drop i).take (j - i)) := by
  have := beq_iff_eq.mp (PyProof.Rows.slice_closesL (x := tx l) (i := i) (j := j) (by omega) (by omega) (by rw [tx_len]; omega))
  rw [this, tx_list]
  have e : ((j : Int) - (i : Int)).toNat = j - i := by omega
  rw [Int.toNat_natCast, e]
  rfl

theorem chr_back : ∀ c : Nat, c < 128 → (Char.ofNat c).toNat = c := by decide
theorem dfold_lt : ∀ (t : List Nat) (a : Nat), PySem.NumText.AllDigits t → t.foldl (fun acc c => acc * 10 + (c - 48)) a < (a + 1) * 10 ^ t.length
  | [], a, _ => by simp
  | c :: t, a, h => by
    have ih := dfold_lt t (a * 10 + (c - 48)) fun d hd => h d (by simp [hd])
    have hc := h c (by simp)
    rw [List.foldl_cons, List.length_cons, Nat.pow_succ, Nat.mul_comm (10 ^ t.length) 10, ← Nat.mul_assoc]
    exact Nat.lt_of_lt_of_le ih (Nat.mul_le_mul_right _ (by omega))
theorem dval_lt {t : List Nat} (h : PySem.NumText.AllDigits t) : PySem.NumText.digitsVal t < 10 ^ t.length := by
  have := dfold_lt t 0 h
  rw [Nat.zero_add, Nat.one_mul] at this
  exact this
theorem dg_figs {t : List Nat} (h : figsB t = true) : dg ((PySem.NumText.digitsVal t : Nat) : Int) = t ∧ DgOk ((PySem.NumText.digitsVal t : Nat) : Int) := by
  obtain ⟨a, b, c, d⟩ := figs_iff.mp h
  constructor
  · unfold dg
    rw [PySem.W.KIN.signs_num, PySem.NumText.toDigits_digitsVal (t.length - 1) t (by omega) d ?_, List.map_map]
    · have : t.map (Char.toNat ∘ Char.ofNat) = t.map id := List.map_congr_left fun x hx => chr_back x (by have := d x hx; omega)
      rw [this, List.map_id]
    · rcases Nat.lt_or_ge 1 t.length with z | z
      · refine .inr ?_
        match t, z with
        | x :: r, z =>
          refine ⟨x, r, rfl, ?_⟩
          have := d x (by simp)
          rcases Nat.lt_or_ge 48 x with k | k
          · exact k
          · exact absurd ⟨by rw [show x = 48 by omega]; rfl, z⟩ c
      · exact .inl (by omega)
  · refine dgOk (Int.natCast_nonneg _) ?_
    have h1 := dval_lt d
    have h2 : 10 ^ t.length ≤ 10 ^ 100 := Nat.pow_le_pow_right (by decide) b
    have e : ((10 ^ 100 : Nat) : Int) = 10 ^ 100 := by rw [Int.natCast_pow]; rfl
    rw [← e]
    exact Int.ofNat_lt.mpr (Nat.lt_of_lt_of_le h1 h2)
def rdN (l : List Nat) : Option (Int × List Nat) := (rdNum (l.takeWhile figB)).map fun n => (n, l.dropWhile figB)
theorem rdN_wr {l r : List Nat} {n : Int} (h : rdN l = some (n, r)) : l = dg n ++ r ∧ DgOk n := by
  unfold rdN rdNum at h
  split at h
  · rename_i c
    have h := Option.some.inj h
    injection h with h1 h2
    obtain ⟨a, b⟩ := dg_figs c
    rw [← h1, ← h2, a]
    exact ⟨(List.takeWhile_append_dropWhile).symm, b⟩
  · cases h
def rdM (f : List Nat → Option (Pap × List Nat)) : Nat → List Nat → Option (List Pap × List Nat)
  | 0, _ => none
  | m + 1, l => if l.take 2 = cmL then (f (l.drop 2)).bind fun x => (rdM f m x.2).map fun y => (x.1 :: y.1, y.2) else if l.take 1 = clL then some ([], l.drop 1) else none
def rdPs (f : List Nat → Option (Pap × List Nat)) (l : List Nat) : Option (List Pap × List Nat) :=
  if l.take 1 = clL then some ([], l.drop 1) else (f l).bind fun x => (rdM f (x.2.length + 1) x.2).map fun y => (x.1 :: y.1, y.2)
def rdBy (f : List Nat → Option (Pap × List Nat)) (l : List Nat) : Option (Pap × List Nat) :=
  if l.take 3 = byL then (rdN (l.drop 3)).bind fun x => if x.2.take 2 = opL then (rdPs f (x.2.drop 2)).map fun y => (.par x.1 y.1, y.2) else none else none
def rdP : Nat → List Nat → Option (Pap × List Nat)
  | 0, l => if l.take 3 = inL then (rdN (l.drop 3)).map fun x => (.inn x.1, x.2) else none
  | k + 1, l => if l.take 3 = inL then (rdN (l.drop 3)).map fun x => (.inn x.1, x.2) else rdBy (rdP k) l
theorem rdP_in {k : Nat} {l : List Nat} (h : l.take 3 = inL) : rdP k l = (rdN (l.drop 3)).map fun x => (.inn x.1, x.2) := by
  cases k with
  | zero => unfold rdP; rw [if_pos h]
  | succ k => unfold rdP; rw [if_pos h]
theorem rdP_zero {l : List Nat} (h : ¬ l.take 3 = inL) : rdP 0 l = none := if_neg h
theorem rdP_succ {k : Nat} {l : List Nat} (h : ¬ l.take 3 = inL) : rdP (k + 1) l = rdBy (rdP k) l := if_neg h
theorem take_eat {l y : List Nat} (h : l.take y.length = y) : l = y ++ l.drop y.length := by
  have := List.take_append_drop y.length l
  rw [h] at this
  exact this.symm
def Wr (k : Nat) (f : List Nat → Option (Pap × List Nat)) : Prop := ∀ l p r, f l = some (p, r) → l = ptx p ++ r ∧ POk p ∧ p.dep ≤ k
theorem POks.mk {p : Pap} {ps : List Pap} (h : POk p) (hs : POks ps) : POks (p :: ps) := by
  unfold POks numss
  intro n hn
  rcases List.mem_append.mp hn with z | z
  · exact h n z
  · exact hs n z
theorem Wr.more {k : Nat} {f : List Nat → Option (Pap × List Nat)} (w : Wr k f) : ∀ (m : Nat) (l : List Nat) (ps : List Pap) (r : List Nat), rdM f m l = some (ps, r) → l = ptxr ps ++ (clL ++ r) ∧ POks ps ∧ Pap.deps ps ≤ k
  | 0, _, _, _, h => nomatch h
  | m + 1, l, ps, r, h => by
    unfold rdM at h
    split at h
    · rename_i c
      obtain ⟨⟨p, r1⟩, e1, h⟩ := Option.bind_eq_some_iff.mp h
      obtain ⟨⟨qs, r2⟩, e2, h⟩ := Option.map_eq_some_iff.mp h
      injection h with h1 h2
      subst h1 h2
      obtain ⟨a1, a2, a3⟩ := w _ _ _ e1
      obtain ⟨b1, b2, b3⟩ := Wr.more w m _ _ _ e2
      refine ⟨?_, POks.mk a2 b2, ?_⟩
      · simp only at b1
        rw [take_eat (y := cmL) c]
        show cmL ++ l.drop 2 = _
        rw [a1, b1]
        simp only [ptxr, List.append_assoc]
      · simp only [Pap.deps]
        omega
    · split at h
      · rename_i c
        cases h
        refine ⟨?_, (fun n hn => nomatch hn), Nat.zero_le _⟩
        exact take_eat (y := clL) c
      · cases h
theorem Wr.papers {k : Nat} {f : List Nat → Option (Pap × List Nat)} (w : Wr k f) {l : List Nat} {ps : List Pap} {r : List Nat} (h : rdPs f l = some (ps, r)) : l = ptxs ps ++ (clL ++ r) ∧ POks ps ∧ Pap.deps ps ≤ k := by
  unfold rdPs at h
  split at h
  · rename_i c
    cases h
    exact ⟨take_eat (y := clL) c, (fun n hn => nomatch hn), Nat.zero_le _⟩
  · obtain ⟨⟨p, r1⟩, e1, h⟩ := Option.bind_eq_some_iff.mp h
    obtain ⟨⟨qs, r2⟩, e2, h⟩ := Option.map_eq_some_iff.mp h
    injection h with h1 h2
    subst h1 h2
    obtain ⟨a1, a2, a3⟩ := w _ _ _ e1
    obtain ⟨b1, b2, b3⟩ := w.more _ _ _ _ e2
    refine ⟨?_, POks.mk a2 b2, ?_⟩
    · simp only at b1
      rw [a1, b1]
      simp only [ptxs, List.append_assoc]
    · simp only [Pap.deps]
      omega
theorem rdP_wr : ∀ k : Nat, Wr k (rdP k) := by
  intro k
  induction k with
  | zero =>
    intro l p r h
    by_cases c : l.take 3 = inL
    · rw [rdP_in c] at h
      obtain ⟨⟨n, r1⟩, e1, h⟩ := Option.map_eq_some_iff.mp h
      injection h with h1 h2
      subst h1 h2
      obtain ⟨a, b⟩ := rdN_wr e1
      refine ⟨?_, (fun m hm => by have : m = n := by simpa [nums] using hm
                                  rw [this]; exact b), Nat.le_refl _⟩
      rw [take_eat (y := inL) c]
      show inL ++ l.drop 3 = _
      rw [a]
      simp only [ptx, List.append_assoc]
    · rw [rdP_zero c] at h
      cases h
  | succ k ih =>
    intro l p r h
    by_cases c : l.take 3 = inL
    · rw [rdP_in c] at h
      obtain ⟨⟨n, r1⟩, e1, h⟩ := Option.map_eq_some_iff.mp h
      injection h with h1 h2
      subst h1 h2
      obtain ⟨a, b⟩ := rdN_wr e1
      refine ⟨?_, (fun m hm => by have : m = n := by simpa [nums] using hm
                                  rw [this]; exact b), Nat.zero_le _⟩
      rw [take_eat (y := inL) c]
      show inL ++ l.drop 3 = _
      rw [a]
      simp only [ptx, List.append_assoc]
    · rw [rdP_succ c] at h
      unfold rdBy at h
      split at h
      · rename_i c2
        obtain ⟨⟨n, r1⟩, e1, h⟩ := Option.bind_eq_some_iff.mp h
        obtain ⟨a, b⟩ := rdN_wr e1
        simp only at h
        split at h
        · rename_i c3
          obtain ⟨⟨ps, r2⟩, e2, h⟩ := Option.map_eq_some_iff.mp h
          injection h with h1 h2
          subst h1 h2
          obtain ⟨b1, b2, b3⟩ := ih.papers e2
          refine ⟨?_, ?_, ?_⟩
          · rw [take_eat (y := byL) c2]
            show byL ++ l.drop 3 = _
            rw [a, take_eat (y := opL) c3]
            show byL ++ (dg n ++ (opL ++ r1.drop 2)) = _
            rw [b1]
            simp only [ptx, List.append_assoc]
          · intro m hm
            unfold nums at hm
            rcases List.mem_cons.mp hm with e | e
            · rw [e]; exact b
            · exact b2 m e
          · simp only [Pap.dep]
            omega
        · cases h
      · cases h
theorem ptx_pos (p : Pap) : 3 ≤ (ptx p).length := by
  cases p <;> simp [ptx, inL, byL] <;> omega
theorem rdP_len {k : Nat} {l r : List Nat} {p : Pap} (h : rdP k l = some (p, r)) : r.length + 3 ≤ l.length := by
  have e := (rdP_wr k _ _ _ h).1
  have := congrArg List.length e
  rw [List.length_append] at this
  have := ptx_pos p
  omega
theorem rdN_len {l r : List Nat} {n : Int} (h : rdN l = some (n, r)) : r.length + 1 ≤ l.length := by
  obtain ⟨e, d⟩ := rdN_wr h
  have := congrArg List.length e
  rw [List.length_append] at this
  have := List.length_pos_iff.mpr d.ne
  omega
theorem rdM_fuel {k : Nat} : ∀ (m m' : Nat) (l : List Nat), l.length < m → l.length < m' → rdM (rdP k) m l = rdM (rdP k) m' l
  | 0, _, _, h, _ => absurd h (Nat.not_lt_zero _)
  | _, 0, _, _, h => absurd h (Nat.not_lt_zero _)
  | m + 1, m' + 1, l, h, h' => by
    unfold rdM
    split
    · cases e : rdP k (l.drop 2) with
      | none => rfl
      | some x =>
        obtain ⟨p, r⟩ := x
        have := rdP_len e
        rw [List.length_drop] at this
        show (rdM (rdP k) m r).map _ = (rdM (rdP k) m' r).map _
        rw [rdM_fuel m m' r (by omega) (by omega)]
    · rfl
def knot (l : List Nat) : Option (Bool × List Nat) :=
  if l.take 3 = inL then (rdN (l.drop 3)).map fun x => (false, x.2)
  else if l.take 3 = byL then (rdN (l.drop 3)).bind fun x => if x.2.take 2 = opL then some (true, x.2.drop 2) else none else none
theorem knot_len {l r : List Nat} {b : Bool} (h : knot l = some (b, r)) : r.length + 3 ≤ l.length := by
  have t3 : ∀ y : List Nat, y.length = 3 → l.take 3 = y → 3 ≤ l.length := fun y e c => by
    have := congrArg List.length c
    rw [List.length_take, e] at this
    omega
  unfold knot at h
  split at h
  · rename_i c
    obtain ⟨⟨n, r1⟩, e1, h⟩ := Option.map_eq_some_iff.mp h
    injection h with h1 h2
    subst h1 h2
    have := rdN_len e1
    have := t3 _ rfl c
    rw [List.length_drop] at *
    show r1.length + 3 ≤ l.length
    omega
  · split at h
    · rename_i c
      obtain ⟨⟨n, r1⟩, e1, h⟩ := Option.bind_eq_some_iff.mp h
      simp only at h
      split at h
      · have h := Option.some.inj h
        injection h with h1 h2
        subst h1 h2
        have := rdN_len e1
        have := t3 _ rfl c
        rw [List.length_drop] at *
        omega
      · cases h
    · cases h
def mach : Nat → Bool → Nat → List Nat → Bool
  | 0, _, _, _ => false
  | f + 1, true, i, l => if 40 < i then false else match knot l with
    | none => false
    | some (op, r) => mach f (op && !decide (r.take 1 = clL)) (i + op.toNat) r
  | f + 1, false, i, l => if 40 < i then false else if i = 0 then decide (l = []) else if l.take 2 = cmL then mach f true i (l.drop 2) else if l.take 1 = clL then mach f false (i - 1) (l.drop 1) else false
theorem mach_f {f i : Nat} {l : List Nat} : mach (f + 1) false i l = if 40 < i then false else if i = 0 then decide (l = []) else if l.take 2 = cmL then mach f true i (l.drop 2) else if l.take 1 = clL then mach f false (i - 1) (l.drop 1) else false := rfl
theorem mach_t {f i : Nat} {l : List Nat} : mach (f + 1) true i l = if 40 < i then false else match knot l with
    | none => false
    | some (op, r) => mach f (op && !decide (r.take 1 = clL)) (i + op.toNat) r := rfl
theorem take_short {l y : List Nat} {n : Nat} (h : l.take n = y) (hy : y.length = n) : n ≤ l.length := by
  have := congrArg List.length h
  rw [List.length_take] at this
  omega
theorem mach_fuel : ∀ (f g : Nat) (w : Bool) (i : Nat) (l : List Nat), l.length < f → l.length < g → mach f w i l = mach g w i l
  | 0, _, _, _, _, h, _ => absurd h (Nat.not_lt_zero _)
  | _, 0, _, _, _, _, h => absurd h (Nat.not_lt_zero _)
  | f + 1, g + 1, true, i, l, h, h' => by
    unfold mach
    split
    · rfl
    · cases e : knot l with
      | none => rfl
      | some x =>
        obtain ⟨op, r⟩ := x
        have := knot_len e
        exact mach_fuel f g _ _ r (by omega) (by omega)
  | f + 1, g + 1, false, i, l, h, h' => by
    unfold mach
    split
    · rfl
    · split
      · rfl
      · split
        · rename_i c
          have := take_short c rfl
          exact mach_fuel f g _ _ _ (by rw [List.length_drop]; omega) (by rw [List.length_drop]; omega)
        · split
          · rename_i c
            have := take_short c rfl
            exact mach_fuel f g _ _ _ (by rw [List.length_drop]; omega) (by rw [List.length_drop]; omega)
          · rfl
theorem cl_not_cm {l : List Nat} (h : l.take 1 = clL) : ¬ l.take 2 = cmL := fun c => by
  have e1 := congrArg (fun x : List Nat => x[0]?) h
  have e2 := congrArg (fun x : List Nat => x[0]?) c
  rw [List.getElem?_take] at e1 e2
  simp [clL, cmL] at e1 e2
  rw [e1] at e2
  cases e2
theorem mach_close {f i : Nat} {l : List Nat} (hf : l.length < f) (hi : i + 1 ≤ 40) (h : l.take 1 = clL) : mach f false (i + 1) l = mach f false i (l.drop 1) := by
  have := take_short h rfl
  obtain ⟨g, rfl⟩ : ∃ g, f = g + 1 := ⟨f - 1, by omega⟩
  rw [mach_f, if_neg (by omega), if_neg (by omega), if_neg (cl_not_cm h), if_pos h]
  exact mach_fuel _ _ _ _ _ (by rw [List.length_drop]; omega) (by rw [List.length_drop]; omega)
theorem mach_more {k i f : Nat} (hi : i + 1 ≤ 40) (ih : ∀ l : List Nat, l.length < f → (rdP k l = none → mach f true (i + 1) l = false) ∧ ∀ p r, rdP k l = some (p, r) → mach f true (i + 1) l = mach f false (i + 1) r) :
    ∀ (m : Nat) (l : List Nat), l.length < m → l.length < f → (rdM (rdP k) m l = none → mach f false (i + 1) l = false) ∧ ∀ ps r, rdM (rdP k) m l = some (ps, r) → mach f false (i + 1) l = mach f false i r
  | 0, _, h, _ => absurd h (Nat.not_lt_zero _)
  | m + 1, l, hm, hf => by
    unfold rdM
    by_cases c : l.take 2 = cmL
    · rw [if_pos c]
      have l2 := take_short c rfl
      have ld : (l.drop 2).length = l.length - 2 := List.length_drop
      have em : mach f false (i + 1) l = mach f true (i + 1) (l.drop 2) := by
        obtain ⟨g, rfl⟩ : ∃ g, f = g + 1 := ⟨f - 1, by omega⟩
        rw [mach_f, if_neg (by omega), if_neg (by omega), if_pos c]
        exact mach_fuel _ _ _ _ _ (by omega) (by omega)
      obtain ⟨a, b⟩ := ih (l.drop 2) (by omega)
      cases e : rdP k (l.drop 2) with
      | none => exact ⟨fun _ => em.trans (a e), fun ps r h => nomatch h⟩
      | some x =>
        obtain ⟨p, r1⟩ := x
        have lr := rdP_len e
        obtain ⟨a2, b2⟩ := mach_more hi ih m r1 (by omega) (by omega)
        have e3 := em.trans (b p r1 e)
        show (((rdM (rdP k) m r1).map fun y => (p :: y.1, y.2)) = none → _) ∧ ∀ ps r, ((rdM (rdP k) m r1).map fun y => (p :: y.1, y.2)) = some (ps, r) → _
        refine ⟨fun h => e3.trans (a2 (Option.map_eq_none_iff.mp h)), fun ps r h => ?_⟩
        obtain ⟨⟨qs, r2⟩, e4, h⟩ := Option.map_eq_some_iff.mp h
        injection h with h1 h2
        subst h1 h2
        exact e3.trans (b2 _ _ e4)
    · rw [if_neg c]
      by_cases c2 : l.take 1 = clL
      · rw [if_pos c2]
        refine ⟨(fun h => nomatch h), fun ps r h => ?_⟩
        cases h
        exact mach_close hf hi c2
      · rw [if_neg c2]
        refine ⟨fun _ => ?_, fun ps r h => nomatch h⟩
        obtain ⟨g, rfl⟩ : ∃ g, f = g + 1 := ⟨f - 1, by omega⟩
        rw [mach_f, if_neg (by omega), if_neg (by omega), if_neg c, if_neg c2]
theorem mach_rd : ∀ (k i f : Nat) (l : List Nat), i + k = 40 → l.length < f → (rdP k l = none → mach f true i l = false) ∧ ∀ p r, rdP k l = some (p, r) → mach f true i l = mach f false i r := by
  intro k
  induction k with
  | zero =>
    intro i f l hi hf
    obtain ⟨g, rfl⟩ : ∃ g, f = g + 1 := ⟨f - 1, by omega⟩
    have e : mach (g + 1) true i l = match knot l with
        | none => false
        | some (op, r) => mach g (op && !decide (r.take 1 = clL)) (i + op.toNat) r := by rw [mach_t, if_neg (by omega)]
    by_cases c : l.take 3 = inL
    · have ek : knot l = (rdN (l.drop 3)).map fun x => (false, x.2) := if_pos c
      rw [e, ek, rdP_in c]
      cases en : rdN (l.drop 3) with
      | none => exact ⟨fun _ => rfl, fun p r h => nomatch h⟩
      | some x =>
        obtain ⟨n, r⟩ := x
        have := rdN_len en
        rw [List.length_drop] at this
        refine ⟨(fun h => nomatch h), fun p r' h => ?_⟩
        cases h
        exact mach_fuel g (g + 1) _ _ r (by omega) (by omega)
    · rw [rdP_zero c]
      refine ⟨fun _ => ?_, fun p r h => nomatch h⟩
      rw [e]
      have ek : knot l = if l.take 3 = byL then (rdN (l.drop 3)).bind fun x => if x.2.take 2 = opL then some (true, x.2.drop 2) else none else none := if_neg c
      cases en : knot l with
      | none => rfl
      | some x =>
        obtain ⟨op, r⟩ := x
        have hop : op = true := by
          rw [en] at ek
          split at ek
          · obtain ⟨y, _, h⟩ := Option.bind_eq_some_iff.mp ek.symm
            split at h
            · cases h; rfl
            · cases h
          · cases ek
        subst hop
        show mach g _ (i + 1) r = false
        cases g with
        | zero => rfl
        | succ g =>
          generalize (true && !decide (r.take 1 = clL)) = w
          cases w with
          | true => rw [mach_t, if_pos (by omega)]
          | false => rw [mach_f, if_pos (by omega)]
  | succ k ih =>
    intro i f l hi hf
    have ih' := fun l h => ih (i + 1) f l (by omega) h
    obtain ⟨g, rfl⟩ : ∃ g, f = g + 1 := ⟨f - 1, by omega⟩
    have e : mach (g + 1) true i l = match knot l with
        | none => false
        | some (op, r) => mach g (op && !decide (r.take 1 = clL)) (i + op.toNat) r := by rw [mach_t, if_neg (by omega)]
    by_cases c : l.take 3 = inL
    · have ek : knot l = (rdN (l.drop 3)).map fun x => (false, x.2) := if_pos c
      rw [e, ek, rdP_in c]
      cases en : rdN (l.drop 3) with
      | none => exact ⟨fun _ => rfl, fun p r h => nomatch h⟩
      | some x =>
        obtain ⟨n, r⟩ := x
        have := rdN_len en
        rw [List.length_drop] at this
        refine ⟨(fun h => nomatch h), fun p r' h => ?_⟩
        cases h
        exact mach_fuel g (g + 1) _ _ r (by omega) (by omega)
    rw [rdP_succ c]
    have ek : knot l = if l.take 3 = byL then (rdN (l.drop 3)).bind fun x => if x.2.take 2 = opL then some (true, x.2.drop 2) else none else none := if_neg c
    unfold rdBy
    by_cases c1 : l.take 3 = byL
    · rw [if_pos c1] at ek ⊢
      have l3 := take_short c1 rfl
      cases en : rdN (l.drop 3) with
      | none =>
        rw [en] at ek
        rw [e, ek]
        exact ⟨fun _ => rfl, fun p r h => nomatch h⟩
      | some x =>
        obtain ⟨b, r⟩ := x
        have lr := rdN_len en
        rw [List.length_drop] at lr
        rw [en] at ek
        have ek' : knot l = if r.take 2 = opL then some (true, r.drop 2) else none := ek
        show ((if r.take 2 = opL then (rdPs (rdP k) (r.drop 2)).map fun y => (Pap.par b y.1, y.2) else none) = none → _) ∧ ∀ p r', (if r.take 2 = opL then (rdPs (rdP k) (r.drop 2)).map fun y => (Pap.par b y.1, y.2) else none) = some (p, r') → _
        by_cases c2 : r.take 2 = opL
        · rw [if_pos c2] at ek' ⊢
          have l2 : (r.drop 2).length = r.length - 2 := List.length_drop
          rw [e, ek']
          show (_ → mach g (true && !decide ((r.drop 2).take 1 = clL)) (i + 1) (r.drop 2) = false) ∧ ∀ p r', _ → mach g (true && !decide ((r.drop 2).take 1 = clL)) (i + 1) (r.drop 2) = _
          rw [Bool.true_and, mach_fuel g (g + 1) _ _ _ (by omega) (by omega)]
          generalize r.drop 2 = t at l2 ⊢
          unfold rdPs
          by_cases c3 : t.take 1 = clL
          · rw [if_pos c3, decide_eq_true c3]
            refine ⟨(fun h => nomatch h), fun p r' h => ?_⟩
            cases h
            exact mach_close (by omega) (by omega) c3
          · rw [if_neg c3, decide_eq_false c3]
            obtain ⟨a1, b1⟩ := ih' t (by omega)
            cases et : rdP k t with
            | none => exact ⟨fun _ => a1 et, fun p r h => nomatch h⟩
            | some x =>
              obtain ⟨p1, r1⟩ := x
              have lt := rdP_len et
              obtain ⟨a2, b2⟩ := mach_more (by omega) ih' (r1.length + 1) r1 (by omega) (by omega)
              have e3 := b1 p1 r1 et
              refine ⟨fun h => e3.trans (a2 ?_), fun p r' h => ?_⟩
              · have h := Option.map_eq_none_iff.mp h
                exact Option.map_eq_none_iff.mp h
              · obtain ⟨⟨qs, r2⟩, e4, h⟩ := Option.map_eq_some_iff.mp h
                obtain ⟨⟨q2, r3⟩, e5, h5⟩ := Option.map_eq_some_iff.mp e4
                cases h
                cases h5
                exact e3.trans (b2 _ _ e5)
        · rw [if_neg c2] at ek' ⊢
          rw [e, ek']
          exact ⟨fun _ => rfl, fun p r h => nomatch h⟩
    · rw [if_neg c1] at ek ⊢
      rw [e, ek]
      exact ⟨fun _ => rfl, fun p r h => nomatch h⟩
def TxOk (l : List Nat) : Prop := l.length ≤ 100000 ∧ ∀ c ∈ l, c < 128
theorem TxOk.asc {l : List Nat} (h : TxOk l) : Asc (tx l) := asc_tx.mpr h.2
theorem fig_in (c : Nat) : (!(Builtin.Str.occurrences (Str.ofString "0123456789") ⟨#[c]⟩ 0 (Str.ofString "0123456789").length 1).isEmpty) = figB c := by
  rw [StrLaws.found_one]
  have el : (Str.ofString "0123456789").cps.toList = [48, 49, 50, 51, 52, 53, 54, 55, 56, 57] := by decide +kernel
  rw [el]
  unfold figB
  rw [decide_eq_decide]
  simp
  omega
theorem zero_tx : Str.ofString "0" = ⟨#[48]⟩ := by decide +kernel
theorem sign_eq {c d : Nat} : (⟨#[c]⟩ : Str) = ⟨#[d]⟩ ↔ c = d := by
  constructor
  · intro h
    injection h with h
    injection h with h
    simpa using h
  · rintro rfl
    rfl
def sp_is_fig : Sp := fun vs H Q _ => ∃ l : List Nat, vs = [.str (tx l), .int 100] ∧ TxOk l ∧ ∀ H', Same H H' → Q (.bl (figsB l)) H'
theorem h_is_figures (T : TF K mg "is_figures" s_is_figures) (m_len : mg "len" = none) (m_all : mg "all" = none) (c_FIGURES : CS mg "FIGURES" "0123456789") : Has P w K mg base 1 "is_figures" ["text", "most"] sp_is_fig := by
  refine T.has sc_is_figures (fun _ _ _ _ _ _ us hl => match us, hl with | [_, _], _ => rfl) (fun vs H Q E h => ?_) (fun f cdv A outer s H vs Q E hr h => ?_)
  · obtain ⟨l, rfl, _⟩ := h
    rfl
  obtain ⟨l, rfl, hl, q⟩ := h
  refine ⟨_, (pss_cons (ps_cut (ps_if (PW.pt (pw_or (pt_cmpR op_lt (pe_callB call_len_str rfl m_len PySem.boot_len (pa_cons (pv 0) pa_nil)) pe_int (nomark _)) (pw_or1 (pt_cmpR op_gt (pe_callB call_len_str rfl m_len PySem.boot_len (pa_cons (pv 0) pa_nil)) (pv 1) (nomark _))))) (pss_one (ps_ret pe_bl)) pss_nil)) (pss_cons (ps_cut (ps_if (PW.pt (pw_and (pt_cmpR op_eq (pe_ix ix_str (pv 0) pe_int (fun _ _ => rfl)) pe_str (nomark _)) (pw_and1 (pt_cmpR op_gt (pe_callB call_len_str rfl m_len PySem.boot_len (pa_cons (pv 0) pa_nil)) pe_int (nomark _))))) (pss_one (ps_ret pe_bl)) pss_nil)) (pss_one (ps_ret (pe_callB (call_allB rfl) rfl m_all (by decide +kernel) (pa_cons (pe_comp (CompSc.none (own := ["sign"]) (by decide +kernel) (by decide +kernel) rfl (by decide +kernel)) rfl (pi_str (pv 0)) (fun _ _ _ => (pg_name (i := 0) (show (["sign"] : List Str).Nodup from by decide +kernel) rfl (Or.inl rfl) (Or.inr rfl))) (fun _ _ _ => pts_nil) (fun _ _ _ => (pe_cmpR op_in_str (pv 0) (pe_cs rfl c_FIGURES) rfl))) pa_nil)))))), ?_⟩
  have ln := hl.1
  have tl := tx_len l
  have no : figsB l = false → Q (.bl false) H := fun e => by
    have := q H (Same.refl H)
    rw [e] at this
    exact this
  walk_at "wp"
  refine ⟨fun σ H' => σ = [some (.str (tx l)), some (.int 100)] ∧ H' = H ∧ 1 ≤ l.length ∧ l.length ≤ 100, ?_, ?_⟩
  · walk_at "wp"
    refine ⟨_, rfl, by omega, fun c => no (by unfold figsB; rw [decide_eq_false (by omega)]; rfl), fun c => ⟨_, rfl, by omega, fun c2 => no (by unfold figsB; rw [decide_eq_false (p := l.length ≤ 100) (by omega)]; simp), fun c2 => ⟨by omega, by omega⟩⟩⟩
  rintro σ H' ⟨rfl, rfl, l1, l2⟩
  walk_at "wp"
  refine ⟨fun σ H2 => σ = [some (.str (tx l)), some (.int 100)] ∧ H2 = H' ∧ ¬ (l[0]? = some 48 ∧ 1 < l.length), ?_, ?_⟩
  · walk_at "wp"
    obtain ⟨c0, r0, e0⟩ : ∃ c r, l = c :: r := by
      cases l with
      | nil => simp at l1
      | cons c r => exact ⟨c, r, rfl⟩
    refine ⟨_, _, c0, rfl, rfl, by rw [tl]; show _ ≤ 16777216; omega, by rw [tx_list, e0]; exact atI_nat (j := 0) rfl, rfl, _, rfl, fun z0 => ⟨_, rfl, by omega, fun c => ?_, fun c => ?_⟩, fun z0 => ?_⟩
    · have z1 := V.str.inj (of_decide_eq_true z0)
      rw [zero_tx, sign_eq] at z1
      refine no ?_
      unfold figsB
      rw [decide_eq_true (p := l[0]? = some 48) (by rw [e0, z1]; rfl), decide_eq_true (p := 1 < l.length) (by omega)]
      simp
    · exact ⟨rfl, fun z => c (by omega)⟩
    · refine ⟨rfl, fun z => z0 (decide_eq_true ?_)⟩
      have := z.1
      rw [e0] at this
      have e1 : c0 = 48 := by simpa using this
      rw [zero_tx, e1]
  rintro σ H2 ⟨rfl, rfl, l3⟩
  walk_at "wp"
  refine ⟨_, rfl, hl.asc, ?_⟩
  obtain ⟨Sv, hSv⟩ : ∃ Sv : St → Prop, Sv = fun σ => ∃ o1, σ = [o1] := ⟨_, rfl⟩
  obtain ⟨Pv, hPv⟩ : ∃ Pv : Addr → Nat → List V → Hp → Prop, Pv = fun D i ys H3 => H2 D = none ∧ Same H2 H3 ∧ ys = ((l.take i).map figB).map V.bl := ⟨_, rfl⟩
  refine compW_str Sv Pv (by rw [hSv]; exact ⟨none, rfl⟩) (fun D hD => ?_) (fun D i c ys σ H3 hx hs hD hy h => ?_) (fun D ys H3 hD h => ?_)
  · rw [hPv]
    exact ⟨hD, same_new hD _, rfl⟩
  · rw [hSv] at hs
    rw [hPv] at h
    obtain ⟨o1, rfl⟩ := hs
    obtain ⟨nD, g, rfl⟩ := h
    have hx' : l[i]? = some c := by
      rw [← tx_list l, Array.getElem?_toList]
      exact hx
    have hi := (List.getElem?_eq_some_iff.mp hx').1
    walk_at "wp"
    refine ⟨_, _, rfl, rfl, ?_⟩
    rw [fig_in]
    refine CompP.mk hD hy (by rw [sizeLine_eq]; omega) (by rw [hSv]; exact ⟨_, rfl⟩) (by
      rw [hPv]
      refine ⟨nD, g.write nD _, ?_⟩
      rw [List.take_add_one, hx']
      simp)
  · rw [hPv] at h
    obtain ⟨nD, g, rfl⟩ := h
    have es : (tx l).cps.size = l.length := tl
    rw [es, List.take_length] at hD
    refine ⟨D, _, rfl, SqL.of hD, ?_⟩
    have ef : (l.map figB).all id = figsB l := by
      unfold figsB
      have n3 : (decide (l[0]? = some 48) && decide (1 < l.length)) = false := by
        rw [Bool.and_eq_false_iff]
        by_cases c : l[0]? = some 48
        · exact .inr (decide_eq_false fun z => l3 ⟨c, z⟩)
        · exact .inl (decide_eq_false c)
      rw [decide_eq_true l1, decide_eq_true l2, n3, List.all_map]
      rfl
    rw [ef]
    exact q _ g
def sp_rdnum (C : Addr) : Sp := fun vs H Q E => ∃ l : List Nat, vs = [.str (tx l)] ∧ TxOk l ∧ (rdNum l = none → ∀ x H', Same H H' → H' x = none → E (.ref C) (some x) H') ∧ ∀ n H', rdNum l = some n → Same H H' → Q (.int n) H'
theorem h_read_number {c_NoText : Addr} {bm : List Value} (T : TF K mg "read_number" s_read_number) (m_int : mg "int" = none) (O_NoText : OX K mg "NoText" c_NoText bm) (c_MOST_FIGURES : CI mg "MOST_FIGURES" 100) (G_is_figures : Has P w K mg base 1 "is_figures" ["text", "most"] sp_is_fig) : HasX P w K mg base 2 "read_number" ["text"] (sp_rdnum c_NoText) := by
  refine T.hasX sc_read_number (fun _ _ _ _ _ _ us hl => match us, hl with | [_], _ => rfl) (fun vs H Q E h => ?_) (fun f cdv A outer s H vs Q E hr h => ?_)
  · obtain ⟨l, rfl, _⟩ := h
    rfl
  obtain ⟨l, rfl, hl, qx, q⟩ := h
  refine ⟨_, (pss_cons (ps_if (pt_not (pt_val (pe_def (G_is_figures.mono (by first | decide | omega)) hr (pa_cons (pv 0) (pa_cons (pe_ci rfl c_MOST_FIGURES) pa_nil))) (fun _ => rfl))) (pss_one (ps_raise O_NoText rfl throwX (pa_cons pe_str pa_nil))) pss_nil) (pss_one (ps_ret (pe_callTy call_int_text rfl m_int (by decide +kernel) (pa_cons (pv 0) pa_nil))))), ?_⟩
  walk_at "wp"
  refine ⟨l, rfl, hl, fun H1 g1 => ?_⟩
  unfold rdNum at qx q
  cases c : figsB l with
  | true =>
    rw [if_pos c] at q
    walk_at "wp"
    exact ⟨_, _, rfl, figs_read c, by rw [tx_len]; have := (figs_iff.mp c).2.1; omega, q _ _ rfl g1⟩
  | false =>
    rw [if_neg (by rw [c]; decide)] at qx
    walk_at "wp"
    exact ⟨by decide, fun x hx => qx rfl x H1 g1 hx⟩

def flds (l : List Nat) (i : Nat) : List (Str × V) := [("text", .str (tx l)), ("place", .int (i : Int))]
theorem fld_text (l : List Nat) (i : Nat) : (flds l i).lookup ("text" : Str) = some (.str (tx l)) := by
  unfold flds
  rfl
theorem fld_place (l : List Nat) (i : Nat) : (flds l i).lookup ("place" : Str) = some (.int (i : Int)) := by
  unfold flds
  rfl
theorem fld_no {l : List Nat} {i : Nat} {m : Str} (h : (m == ("text" : Str)) = false := by decide +kernel) (k : (m == ("place" : Str)) = false := by decide +kernel) : (flds l i).lookup m = none := by
  unfold flds
  simp only [List.lookup, h, k]
theorem fld_put (l : List Nat) (i j : Nat) : putF ("place" : Str) (.int (j : Int)) (flds l i) = flds l j := by
  unfold flds putF
  rw [if_neg (by decide +kernel)]
  unfold putF
  rw [if_pos rfl]
def RdAt (C : Addr) (H : Hp) (a : Addr) (l : List Nat) (i : Nat) : Prop := ∃ dx, H a = some (.ins C dx (flds l i))
structure Rd (C : Addr) (H H' : Hp) (a : Addr) (l : List Nat) (i : Nat) : Prop where
  at_ : RdAt C H' a l i
  same : ∀ b o, b ≠ a → H b = some o → H' b = some o
theorem Rd.upd {C : Addr} {H : Hp} {a dx : Addr} {l : List Nat} {i : Nat} : Rd C H (upd H a (.ins C dx (flds l i))) a l i := ⟨⟨dx, upd_same⟩, fun b o hb e => by rw [upd_ne hb]; exact e⟩
theorem Rd.trans {C : Addr} {H H1 H2 : Hp} {a : Addr} {l : List Nat} {i j : Nat} (g : Rd C H H1 a l i) (h : Rd C H1 H2 a l j) : Rd C H H2 a l j := ⟨h.at_, fun b o hb e => h.same b o hb (g.same b o hb e)⟩
theorem Rd.free {C : Addr} {H H1 : Hp} {a b : Addr} {l : List Nat} {i : Nat} (g : Rd C H H1 a l i) (h : H1 b = none) (hb : b ≠ a) : H b = none := by
  cases e : H b with
  | none => rfl
  | some o => rw [g.same b o hb e] at h; cases h
theorem Rd.new {C : Addr} {H H1 : Hp} {a p : Addr} {l : List Nat} {i : Nat} (g : Rd C H H1 a l i) (h : H1 p = none) (o : HO) : Rd C H (L2.upd H1 p o) a l i := by
  obtain ⟨dx, e⟩ := g.at_
  refine ⟨⟨dx, by rw [upd_ne (ne_of_none e h)]; exact e⟩, fun b o' hb e' => ?_⟩
  have := g.same b o' hb e'
  rw [upd_ne (ne_of_none this h)]
  exact this
theorem Rd.write {C : Addr} {H H1 : Hp} {a D : Addr} {l : List Nat} {i : Nat} (g : Rd C H H1 a l i) (n : H D = none) (h : D ≠ a) (o : HO) : Rd C H (L2.upd H1 D o) a l i := by
  obtain ⟨dx, e⟩ := g.at_
  refine ⟨⟨dx, by rw [upd_ne (Ne.symm h)]; exact e⟩, fun b o' hb e' => ?_⟩
  rw [upd_ne (ne_of_none e' n)]
  exact g.same b o' hb e'
structure RdTx (K : PySem.W.Frag) (C : Addr) : Prop where
  cl : Cls K C
  nT : NoAttr K C "text"
  nP : NoAttr K C "place"
def sp_passes (C : Addr) : Sp := fun vs H Q _ => ∃ (a : Addr) (l y : List Nat) (i : Nat), vs = [.ref a, .str (tx y)] ∧ RdAt C H a l i ∧ l.length ≤ 100000 ∧ i ≤ l.length ∧ y.length ≠ 0 ∧ y.length ≤ 10 ∧ (¬ (l.drop i).take y.length = y → Q (.bl false) H) ∧ ((l.drop i).take y.length = y → ∀ H', Rd C H H' a l (i + y.length) → Q (.bl true) H')
theorem h_passes {C : Addr} (X : RdTx K C) (T : TM K C "passes" "PaperReader.passes" s_PaperReader_passes) (m_len : mg "len" = none) : HasM P w K mg base 1 C "passes" ["self", "signs"] (sp_passes C) := by
  refine T.has sc_PaperReader_passes (fun _ _ _ _ _ _ us hl => match us, hl with | [_, _], _ => rfl) (fun vs H Q E h => ?_) (fun f cdv A outer s H vs Q E hr h => ?_)
  · obtain ⟨a, l, y, i, rfl, _⟩ := h
    rfl
  obtain ⟨a, l, y, i, rfl, ⟨dx, hd⟩, ll, li, y0, y1, q0, q1⟩ := h
  refine ⟨_, (pss_cons (ps_if (pt_not (pt_val (pe_bm PySem.F.plainAttrs_str PySem.F.slot_str_startswith PySem.F.type_str_startswith mt_startsF (pe_fld (pv 0) rfl) (pa_cons (pv 1) (pa_cons (pe_fld (pv 0) rfl) pa_nil))) (fun _ => rfl))) (pss_one (ps_ret pe_bl)) pss_nil) (pss_cons (ps_fldaug (pv 0) (pe_callB call_len_str rfl m_len PySem.boot_len (pa_cons (pv 1) pa_nil)) in_add) (pss_one (ps_ret pe_bl)))), ?_⟩
  walk_at "wp"
  have fi : PySem.fromIndex (tx l).length (i : Int) = i := by
    unfold PySem.fromIndex
    rw [if_neg (by omega)]
    omega
  refine ⟨a, C, dx, _, _, rfl, hd, X.cl, X.nT, fld_text l i, rfl, a, C, dx, _, _, rfl, hd, X.cl, X.nP, fld_place l i, _, _, _, rfl, rfl, ?_⟩
  rw [fi, sub_at l y i y0]
  refine ⟨fun c => q0 (of_decide_eq_false c), fun c => ?_⟩
  have c' : (l.drop i).take y.length = y := by
    rw [Bool.not_eq_false] at c
    exact of_decide_eq_true c
  refine ⟨a, C, dx, _, _, rfl, hd, X.cl, X.nP, fld_place l i, tx y, rfl, by rw [tx_len]; omega, _, _, rfl, rfl, dx, _, hd, by show 2 < 1000; decide, ?_⟩
  have e : (i : Int) + ((tx y).length : Int) = ((i + y.length : Nat) : Int) := by rw [tx_len]; omega
  rw [e, fld_put]
  exact q1 c' _ Rd.upd

theorem fig73 {c : Nat} : (Builtin.Str.occurrences (Str.ofString "0123456789") ⟨#[c]⟩ 0 (Str.ofString "0123456789").length 1).isEmpty = false ↔ 48 ≤ c ∧ c ≤ 57 := by
  have h := StrLaws.found_one (Str.ofString "0123456789") c
  have el : (Str.ofString "0123456789").cps.toList = [48, 49, 50, 51, 52, 53, 54, 55, 56, 57] := by decide +kernel
  rw [el] at h
  rw [← Bool.not_eq_true', h, decide_eq_true_eq]
  simp
  omega

mutual
theorem papIn_by {N : Addr → Prop} {H H' : Hp} (t1 : ∀ b xs, H b = some (.tup xs) → H' b = some (.tup xs)) (t2 : ∀ b xs, N b → H b = some (.lst xs) → H' b = some (.lst xs)) : ∀ {v : V} {p : Pap}, PapIn K N H v p → PapIn K N H' v p
  | _, _, .inn h => .inn (t1 _ _ h)
  | _, _, .par h hl n hz hs => .par (t1 _ _ h) (t2 _ _ n hl) n hz (papsIn_by t1 t2 hs)
theorem papsIn_by {N : Addr → Prop} {H H' : Hp} (t1 : ∀ b xs, H b = some (.tup xs) → H' b = some (.tup xs)) (t2 : ∀ b xs, N b → H b = some (.lst xs) → H' b = some (.lst xs)) : ∀ {xs : List V} {ps : List Pap}, PapsIn K N H xs ps → PapsIn K N H' xs ps
  | _, _, .nil => .nil
  | _, _, .cons h hs => .cons (papIn_by t1 t2 h) (papsIn_by t1 t2 hs)
end
mutual
theorem papIn_off {N : Addr → Prop} {H : Hp} {D : Addr} (n : H D = none) : ∀ {v : V} {p : Pap}, PapIn K N H v p → PapIn K (fun b => N b ∧ b ≠ D) H v p
  | _, _, .inn h => .inn h
  | _, _, .par h hl nn hz hs => .par h hl ⟨nn, ne_of_none hl n⟩ hz (papsIn_off n hs)
theorem papsIn_off {N : Addr → Prop} {H : Hp} {D : Addr} (n : H D = none) : ∀ {xs : List V} {ps : List Pap}, PapsIn K N H xs ps → PapsIn K (fun b => N b ∧ b ≠ D) H xs ps
  | _, _, .nil => .nil
  | _, _, .cons h hs => .cons (papIn_off n h) (papsIn_off n hs)
end
theorem Rd.tup {C : Addr} {H H' : Hp} {a : Addr} {l : List Nat} {i j : Nat} (g : Rd C H H' a l j) (ha : RdAt C H a l i) (b : Addr) (xs : List V) (e : H b = some (.tup xs)) : H' b = some (.tup xs) := by
  obtain ⟨dx, ha⟩ := ha
  exact g.same b _ (fun k => by rw [k, ha] at e; cases e) e
theorem Rd.lst {C : Addr} {H H' : Hp} {a : Addr} {l : List Nat} {i j : Nat} (g : Rd C H H' a l j) (ha : RdAt C H a l i) (b : Addr) (xs : List V) (e : H b = some (.lst xs)) : H' b = some (.lst xs) := by
  obtain ⟨dx, ha⟩ := ha
  exact g.same b _ (fun k => by rw [k, ha] at e; cases e) e
theorem drop_app {l A B : List Nat} {i : Nat} (h : l.drop i = A ++ B) : l.drop (i + A.length) = B := by
  rw [← List.drop_drop, h, List.drop_left]

def Off (a : Addr) (H H' : Hp) : Prop := ∀ b o, b ≠ a → H b = some o → H' b = some o
theorem Off.refl (a : Addr) (H : Hp) : Off a H H := fun _ _ _ e => e
theorem Rd.off {C : Addr} {H H1 H2 : Hp} {a : Addr} {l : List Nat} {i : Nat} (g : Rd C H H1 a l i) (h : Off a H1 H2) : Off a H H2 := fun b o hb e => h b o hb (g.same b o hb e)
theorem Off.new {H : Hp} {a : Addr} {H1 : Hp} (g : Off a H H1) {p : Addr} (h : H1 p = none) (o : HO) : Off a H (upd H1 p o) := fun b o' hb e => by
  have := g b o' hb e
  rw [upd_ne (ne_of_none this h)]
  exact this
theorem same_off {a : Addr} {H H' : Hp} (g : Same H H') : Off a H H' := fun b o _ e => g b o e
def sp_needsX (C N : Addr) : Sp := fun vs H Q E => ∃ (a : Addr) (l y : List Nat) (i : Nat), vs = [.ref a, .str (tx y)] ∧ RdAt C H a l i ∧ l.length ≤ 100000 ∧ i ≤ l.length ∧ y.length ≠ 0 ∧ y.length ≤ 10 ∧ (¬ (l.drop i).take y.length = y → ∀ x, H x = none → E (.ref N) (some x) H) ∧ ((l.drop i).take y.length = y → ∀ H', Rd C H H' a l (i + y.length) → Q .non H')
theorem h_needsX {C c_NoText : Addr} {bm : List Value} (cl_PaperReader : Cls K C) (T : TM K C "needs" "PaperReader.needs" s_PaperReader_needs) (O_NoText : OX K mg "NoText" c_NoText bm) (G_PaperReader_passes : HasM P w K mg base 1 C "passes" ["self", "signs"] (sp_passes C)) : HasMX P w K mg base 2 C "needs" ["self", "signs"] (sp_needsX C c_NoText) := by
  refine T.hasX sc_PaperReader_needs (fun _ _ _ _ _ _ us hl => match us, hl with | [_, _], _ => rfl) (fun vs H Q E h => ?_) (fun f cdv A outer s H vs Q E hr h => ?_)
  · obtain ⟨a, l, y, i, rfl, _⟩ := h
    rfl
  obtain ⟨a, l, y, i, rfl, hd, ll, li, y0, y1, qx, q⟩ := h
  have hd' := hd
  obtain ⟨dx, hd⟩ := hd
  refine ⟨_, (pss_one (ps_if (pt_not (pt_val (pe_mth (pv 0) cl_PaperReader (G_PaperReader_passes.mono (by first | decide | omega)) hr (pa_cons (pv 1) pa_nil)) (fun _ => rfl))) (pss_one (ps_raise O_NoText rfl throwX (pa_cons pe_str pa_nil))) pss_nil)), ?_⟩
  walk_at "wp"
  refine ⟨a, dx, _, rfl, hd, fld_no, a, l, y, i, rfl, hd', ll, li, y0, y1, fun z => ?_, fun c H1 g1 => ?_⟩
  · walk_at "wp"
    exact ⟨by decide, fun x hx => qx z x hx⟩
  · walk_at "wp"
    exact q c H1 g1
def noFig (r : List Nat) : Prop := ∀ c, r[0]? = some c → ¬ (48 ≤ c ∧ c ≤ 57)
theorem noFig_drop : ∀ l : List Nat, noFig (l.dropWhile figB)
  | [] => fun c e => by simp at e
  | x :: l => fun c e => by
    rw [List.dropWhile_cons] at e
    split at e
    · exact noFig_drop l c e
    · rename_i h
      have : x = c := by simpa using e
      rw [← this]
      intro k
      exact h (decide_eq_true k)
def sp_nnumX (C N : Addr) : Sp := fun vs H Q E => ∃ (a : Addr) (l : List Nat) (i : Nat), vs = [.ref a] ∧ RdAt C H a l i ∧ TxOk l ∧ i ≤ l.length ∧ (rdN (l.drop i) = none → ∀ x H', Off a H H' → H' x = none → E (.ref N) (some x) H') ∧ ∀ n r j H', rdN (l.drop i) = some (n, r) → l.drop j = r → j ≤ l.length → Rd C H H' a l j → Q (.int n) H'
theorem h_next_numberX {C c_NoText : Addr} (X : RdTx K C) (T : TM K C "next_number" "PaperReader.next_number" s_PaperReader_next_number) (m_len : mg "len" = none) (c_FIGURES : CS mg "FIGURES" "0123456789") (G_read_number : HasX P w K mg base 2 "read_number" ["text"] (sp_rdnum c_NoText)) : HasMX P w K mg base 3 C "next_number" ["self"] (sp_nnumX C c_NoText) := by
  refine T.hasX sc_PaperReader_next_number (fun _ _ _ _ _ _ us hl => match us, hl with | [_], _ => rfl) (fun vs H Q E h => ?_) (fun f cdv A outer s H vs Q E hr h => ?_)
  · obtain ⟨a, l, i, rfl, _⟩ := h
    rfl
  obtain ⟨a, l, i, rfl, hd, hl, li, qx, q⟩ := h
  have ll := hl.1
  have hd' := hd
  obtain ⟨dx, hd⟩ := hd
  have el : l.drop i = (l.drop i).takeWhile figB ++ (l.drop i).dropWhile figB := (List.takeWhile_append_dropWhile).symm
  have nf := noFig_drop (l.drop i)
  have al : ∀ c ∈ (l.drop i).takeWhile figB, 48 ≤ c ∧ c ≤ 57 := fun c hc => by
    have := List.all_eq_true.mp (List.all_takeWhile (p := figB) (l := l.drop i)) c hc
    exact of_decide_eq_true this
  have en : rdN (l.drop i) = (rdNum ((l.drop i).takeWhile figB)).map fun n => (n, (l.drop i).dropWhile figB) := rfl
  generalize (l.drop i).takeWhile figB = t at el al en
  generalize (l.drop i).dropWhile figB = r at el nf en
  refine ⟨_, (pss_cons (ps_set (i := 1) sc_PaperReader_next_number.nd rfl (Or.inl rfl) (pe_fld (pv 0) rfl)) (pss_cons (ps_cut (ps_while own_cx (PW.pt (pw_and (pt_cmpR op_lt (pe_fld (pv 0) rfl) (pe_callB call_len_str rfl m_len PySem.boot_len (pa_cons (pe_fld (pv 0) rfl) pa_nil)) (nomark _)) (pw_and1 (pt_cmpR op_in_str (pe_ix ix_str (pe_fld (pv 0) rfl) (pe_fld (pv 0) rfl) (fun _ _ => rfl)) (pe_cs rfl c_FIGURES) rfl)))) (pss_one (ps_fldaug (pv 0) pe_int in_add)))) (pss_one (ps_ret (pe_defX (G_read_number.mono (by first | decide | omega)) hr passX (pa_cons (pe_slice sl_str (pe_fld (pv 0) rfl) (po_some (pv 1)) (po_some (pe_fld (pv 0) rfl))) pa_nil)))))), ?_⟩
  walk_at "wp"
  have ld := congrArg List.length el
  rw [List.length_drop, List.length_append] at ld
  have tl := tx_len l
  have at_ : ∀ j : Nat, (l.drop i)[j]? = l[i + j]? := fun j => by rw [List.getElem?_drop]
  refine ⟨a, C, dx, _, _, rfl, hd, X.cl, X.nP, fld_place l i, ?_⟩
  refine ⟨fun σ H' => σ = [some (.ref a), some (.int (i : Int))] ∧ Rd C H H' a l (i + t.length), ?_, ?_⟩
  · obtain ⟨W, hW⟩ : ∃ W : Nat → St → Hp → Prop, W = fun m σ H' => ∃ j : Nat, σ = [some (.ref a), some (.int (i : Int))] ∧ Rd C H H' a l (i + j) ∧ j ≤ t.length ∧ m = t.length - j := ⟨_, rfl⟩
    refine ⟨W, ⟨_, by rw [hW]; exact ⟨0, rfl, ⟨hd', fun b o _ e => e⟩, Nat.zero_le _, rfl⟩⟩, fun m σ H' h => ?_⟩
    rw [hW] at h
    obtain ⟨j, rfl, g, hj, rfl⟩ := h
    obtain ⟨dy, he⟩ := g.at_
    have end_ : ¬ j < t.length → Rd C H H' a l (i + t.length) := fun k => by
      have ej : j = t.length := by omega
      rw [ej] at g
      exact g
    walk_at "wp"
    refine ⟨a, C, dy, _, _, rfl, he, X.cl, X.nP, fld_place l (i + j), ?_⟩
    walk_at "wp"
    refine ⟨a, C, dy, _, _, rfl, he, X.cl, X.nT, fld_text l (i + j), tx l, rfl, by omega, fun c => ?_, fun c => ?_⟩
    · have c' : i + j < l.length := by omega
      have gj : (t ++ r)[j]? = some l[i + j] := by rw [← el, at_, List.getElem?_eq_getElem c']
      have ok : 48 ≤ l[i + j] ∧ l[i + j] ≤ 57 → j < t.length := fun fg => by
        by_cases k : j < t.length
        · exact k
        · exfalso
          rw [List.getElem?_append_right (by omega), show j - t.length = 0 by omega] at gj
          exact nf _ gj fg
      refine ⟨a, C, dy, _, _, rfl, he, X.cl, X.nT, fld_text l (i + j), a, C, dy, _, _, rfl, he, X.cl, X.nP, fld_place l (i + j), _, _, l[i + j], rfl, rfl, by rw [tl]; show _ ≤ 16777216; omega, by rw [tx_list]; exact atI_nat (List.getElem?_eq_getElem c'), _, _, rfl, rfl, ?_⟩
      refine ⟨fun z => ⟨_, fun _ _ h => h, a, C, dy, _, _, rfl, he, X.cl, X.nP, fld_place l (i + j), _, _, rfl, rfl, dy, _, he, by show 2 < 1000; decide, t.length - (j + 1), ?_, ?_⟩, fun z => ?_⟩
      · have := ok (fig73.mp z)
        omega
      · have e : ((i + j : Nat) : Int) + 1 = ((i + (j + 1) : Nat) : Int) := by omega
        rw [e, fld_put, hW]
        exact ⟨j + 1, rfl, g.trans Rd.upd, ok (fig73.mp z), rfl⟩
      · refine end_ fun k => ?_
        rw [List.getElem?_append_left k] at gj
        exact absurd (fig73.mpr (al _ (List.mem_of_getElem? gj))) z
    · exact end_ (by omega)
  rintro σ H' ⟨rfl, g⟩
  obtain ⟨dy, he⟩ := g.at_
  walk_at "wp"
  refine ⟨a, C, dy, _, _, rfl, he, X.cl, X.nT, fld_text l _, ?_⟩
  walk_at "wp"
  refine ⟨a, C, dy, _, _, rfl, he, X.cl, X.nP, fld_place l _, _, rfl, tx l, rfl, by rw [tl]; show _ ≤ 16777216; omega, ?_⟩
  have es : Txt.slice (tx l) (some (i : Int)) (some ((i + t.length : Nat) : Int)) = tx t := by
    rw [slice_at (by omega) (by omega), el]
    have : i + t.length - i = t.length := by omega
    rw [this, List.take_left]
  rw [es]
  have hm : ∀ c ∈ t, c ∈ l := fun c hc => List.mem_of_mem_drop (by rw [el]; simp [hc])
  refine ⟨t, rfl, ⟨by omega, fun c hc => hl.2 c (hm c hc)⟩, fun e x H2 g2 hx => qx (by rw [en, e]; rfl) x H2 (g.off (same_off g2)) hx, fun n H2 e g2 => q n r (i + t.length) H2 (by rw [en, e]; rfl) (drop_app el) (by omega) (g.trans ⟨⟨dy, g2 _ _ he⟩, fun b o _ e => g2 b o e⟩)⟩
def sp_npapX (K : PySem.W.Frag) (C N : Addr) (d : Nat) : Sp := fun vs H Q E => ∃ (a : Addr) (l : List Nat) (i ab : Nat), vs = [.ref a, .int (ab : Int)] ∧ RdAt C H a l i ∧ TxOk l ∧ i ≤ l.length ∧ ab ≤ 40 ∧ 40 < ab + d ∧ (rdP (40 - ab) (l.drop i) = none → ∀ x H', Off a H H' → H' x = none → E (.ref N) (some x) H') ∧ ∀ p r j v H', rdP (40 - ab) (l.drop i) = some (p, r) → l.drop j = r → j ≤ l.length → Rd C H H' a l j → PapIn K (fun b => H b = none) H' v p → Q v H'
def sp_npapsX (K : PySem.W.Frag) (C N : Addr) (d : Nat) : Sp := fun vs H Q E => ∃ (a : Addr) (l : List Nat) (i ab : Nat), vs = [.ref a, .int (ab : Int)] ∧ RdAt C H a l i ∧ TxOk l ∧ i ≤ l.length ∧ ab ≤ 40 ∧ 40 < ab + d ∧ (rdPs (rdP (40 - ab)) (l.drop i) = none → ∀ x H', Off a H H' → H' x = none → E (.ref N) (some x) H') ∧ ∀ ps r j (D : Addr) (xs : List V) H', rdPs (rdP (40 - ab)) (l.drop i) = some (ps, r) → l.drop j = r → j ≤ l.length → Rd C H H' a l j → H D = none → H' D = some (.lst xs) → xs.length ≤ 100000 → PapsIn K (fun b => H b = none) H' xs ps → Q (.ref D) H'
theorem h_next_papersX {C c_NoText : Addr} {d : Nat} (cl_PaperReader : Cls K C) (T : TM K C "next_papers" "PaperReader.next_papers" s_PaperReader_next_papers) (G_PaperReader_passes : HasM P w K mg base 1 C "passes" ["self", "signs"] (sp_passes C)) (G_PaperReader_needs : HasMX P w K mg base 2 C "needs" ["self", "signs"] (sp_needsX C c_NoText)) (G_PaperReader_next_paper : HasMX P w K mg base (2 * d + 4) C "next_paper" ["self", "above"] (sp_npapX K C c_NoText d)) : HasMX P w K mg base (2 * d + 5) C "next_papers" ["self", "above"] (sp_npapsX K C c_NoText d) := by
  refine T.hasX sc_PaperReader_next_papers (fun _ _ _ _ _ _ us hl => match us, hl with | [_, _], _ => rfl) (fun vs H Q E h => ?_) (fun f cdv A outer s H vs Q E hr h => ?_)
  · obtain ⟨a, l, i, ab, rfl, _⟩ := h
    rfl
  obtain ⟨a, l, i, ab, rfl, hd, hl, li, ab1, hdp, qx, q⟩ := h
  have ll := hl.1
  have hd' := hd
  obtain ⟨dx, hd⟩ := hd
  refine ⟨_, (pss_cons (ps_cut (ps_if (pt_val (pe_mth (pv 0) cl_PaperReader (G_PaperReader_passes.mono (by first | decide | omega)) hr (pa_cons pe_str pa_nil)) (fun _ => rfl)) (pss_one (ps_ret (pe_lst pa_nil))) pss_nil)) (pss_cons (ps_set (i := 2) sc_PaperReader_next_papers.nd rfl (Or.inl rfl) (pe_lst (pa_cons (pe_mthX (pv 0) cl_PaperReader (G_PaperReader_next_paper.mono (by first | decide | omega)) hr passX (pa_cons (pv 1) pa_nil)) pa_nil))) (pss_cons (ps_while own_cx (pt_val (pe_mth (pv 0) cl_PaperReader (G_PaperReader_passes.mono (by first | decide | omega)) hr (pa_cons pe_str pa_nil)) (fun _ => rfl)) (pss_one (ps_expr (pe_bm PySem.F.plainAttrs_list PySem.F.slot_list_append PySem.F.type_list_append mt_append (pv 2) (pa_cons (pe_mthX (pv 0) cl_PaperReader (G_PaperReader_next_paper.mono (by first | decide | omega)) hr passX (pa_cons (pv 1) pa_nil)) pa_nil))))) (pss_cons (ps_expr (pe_mthX (pv 0) cl_PaperReader (G_PaperReader_needs.mono (by first | decide | omega)) hr passX (pa_cons pe_str pa_nil))) (pss_one (ps_ret (pv 2))))))), ?_⟩
  walk_at "wp"
  generalize hk : 40 - ab = k at qx q
  refine ⟨fun σ H' => σ = [some (.ref a), some (.int (ab : Int)), none] ∧ H' = H ∧ ¬ (l.drop i).take 1 = clL, ?_, ?_⟩
  · walk_at "wp"
    rw [clL_tx]
    refine ⟨a, dx, _, rfl, hd, fld_no, a, l, clL, i, rfl, hd', ll, li, by decide, by decide, fun c => ?_, fun c H1 g1 => ?_⟩
    · walk_at "wp"
      exact c
    · walk_at "wp"
      intro D nD
      have c' : (l.drop i).take 1 = clL := c
      obtain ⟨dy, h1⟩ := g1.at_
      have lc := take_short c' rfl
      rw [List.length_drop] at lc
      exact q [] _ (i + 1) D [] _ (if_pos c') (by rw [List.drop_drop]) (by omega) (g1.new nD (.lst [])) (g1.free nD fun e => by rw [e, h1] at nD; cases nD) upd_same (Nat.zero_le _) .nil
  rintro σ H' ⟨rfl, rfl, ne⟩
  have er : rdPs (rdP k) (l.drop i) = (rdP k (l.drop i)).bind fun x => (rdM (rdP k) (x.2.length + 1) x.2).map fun y => (x.1 :: y.1, y.2) := if_neg ne
  walk_at "wp"
  refine ⟨a, dx, _, rfl, hd, fld_no, a, l, i, ab, rfl, hd', hl, li, ab1, hdp, ?_⟩
  rw [hk]
  refine ⟨fun e x H1 g1 hx => qx (by rw [er, e]; rfl) x H1 g1 hx, fun p r j v H1 ep ej lj g1 hv D nD => ?_⟩
  rw [ep] at er
  have er1 : rdPs (rdP k) (l.drop i) = (rdM (rdP k) (r.length + 1) r).map fun y => (p :: y.1, y.2) := er
  have lr := rdP_len ep
  rw [List.length_drop] at lr
  have ljr := congrArg List.length ej
  rw [List.length_drop] at ljr
  obtain ⟨dy, h1⟩ := g1.at_
  have nDa : D ≠ a := fun e => by rw [e, h1] at nD; cases nD
  have fD := g1.free nD nDa
  have g2 := g1.new nD (.lst [v])
  have hD2 := upd_same (H := H1) (a := D) (o := .lst [v])
  have gD := same_new nD (.lst [v])
  have hv2 : PapIn K (fun b => H' b = none ∧ b ≠ D) (upd H1 D (.lst [v])) v p := (papIn_off nD hv).mono gD
  generalize upd H1 D (.lst [v]) = H2 at g2 hD2 hv2 ⊢
  clear hv gD nD h1 g1 er
  obtain ⟨W, hW⟩ : ∃ W : Nat → St → Hp → Prop, W = fun m σ H3 => ∃ (xs : List V) (ps : List Pap), σ = [some (.ref a), some (.int (ab : Int)), some (.ref D)] ∧ m ≤ l.length ∧ Rd C H' H3 a l (l.length - m) ∧ H3 D = some (.lst xs) ∧ PapsIn K (fun b => H' b = none ∧ b ≠ D) H3 xs ps ∧ xs.length + m ≤ l.length ∧ rdPs (rdP k) (l.drop i) = (rdM (rdP k) (m + 1) (l.drop (l.length - m))).map fun y => (ps ++ y.1, y.2) := ⟨_, rfl⟩
  refine ⟨W, ⟨r.length, by
    rw [hW]
    refine ⟨[v], [p], rfl, by omega, ?_, hD2, .cons hv2 .nil, by rw [List.length_singleton]; omega, ?_⟩
    · rw [show l.length - r.length = j by omega]; exact g2
    · rw [show l.length - r.length = j by omega, ej, er1]; rfl⟩, fun m σ H3 h => ?_⟩
  rw [hW] at h
  obtain ⟨xs, ps, rfl, hm, g3, hD3, hx3, lx, e3⟩ := h
  have hd3 := g3.at_
  obtain ⟨dz, h3⟩ := g3.at_
  have lm : (l.drop (l.length - m)).length = m := by rw [List.length_drop]; omega
  unfold rdM at e3
  walk_at "wp"
  rw [cmL_tx]
  refine ⟨a, dz, _, rfl, h3, fld_no, a, l, cmL, _, rfl, hd3, ll, by omega, by decide, by decide, fun c => ?_, fun c H4 g4 => ?_⟩
  · walk_at "wp"
    have c' : ¬ (l.drop (l.length - m)).take 2 = cmL := c
    rw [if_neg c'] at e3
    rw [clL_tx]
    refine ⟨a, dz, _, rfl, h3, fld_no, a, l, clL, _, rfl, hd3, ll, by omega, by decide, by decide, fun c2 x hx => qx (by
      have c2' : ¬ (l.drop (l.length - m)).take 1 = clL := c2
      rw [e3, if_neg c2']; rfl) x H3 (g3.off (Off.refl _ _)) hx, fun c2 H4 g4 => ?_⟩
    have c2' : (l.drop (l.length - m)).take 1 = clL := c2
    have l1 := take_short c2' rfl
    rw [if_pos c2'] at e3
    refine q ps _ (l.length - m + 1) D xs H4 (by rw [e3]; show some (ps ++ [], _) = _; rw [List.append_nil]) (by rw [List.drop_drop]) (by omega) (g3.trans g4) fD (g4.lst hd3 _ _ hD3) (by omega) (papsIn_by (g4.tup hd3) (fun b xs _ e => g4.lst hd3 b xs e) (hx3.imp fun b hb => hb.1))
  · walk_at "wp"
    have c' : (l.drop (l.length - m)).take 2 = cmL := c
    have l2 := take_short c' rfl
    rw [if_pos c'] at e3
    have hd4 := g4.at_
    obtain ⟨d4, h4⟩ := g4.at_
    have hD4 := g4.lst hd3 _ _ hD3
    have ed : (l.drop (l.length - m)).drop 2 = l.drop (l.length - m + cmL.length) := by rw [List.drop_drop]; rfl
    have c2 : cmL.length = 2 := rfl
    rw [ed] at e3
    refine ⟨_, fun _ _ h => h, .inl ⟨rfl, _, SqL.of hD4⟩, a, d4, _, rfl, h4, fld_no, a, l, _, ab, rfl, hd4, hl, by omega, ab1, hdp, ?_⟩
    rw [hk]
    refine ⟨fun e x H5 g5 hx => qx (by rw [e3, e]; rfl) x H5 ((g3.trans g4).off g5) hx, fun p5 r5 j5 v5 H5 ep5 ej5 lj5 g5 hv5 => ?_⟩
    have lr5 := rdP_len ep5
    rw [List.length_drop] at lr5
    have l5 := congrArg List.length ej5
    rw [List.length_drop] at l5
    have hD5 := g5.lst hd4 _ _ hD4
    refine ⟨D, xs, _, rfl, rfl, hD5, by rw [sizeLine_eq]; omega, r5.length, by omega, ?_⟩
    rw [hW]
    have g6 := (g3.trans g4).trans g5
    have hx5 := papsIn_by (g5.tup hd4) (fun b xs _ e => g5.lst hd4 b xs e) (papsIn_by (g4.tup hd3) (fun b xs _ e => g4.lst hd3 b xs e) hx3)
    have nn : ∀ b, H4 b = none → H' b = none ∧ b ≠ D := fun b hb => ⟨(g3.trans g4).free hb (fun e => by rw [e, h4] at hb; cases hb), fun e => by rw [e, hD4] at hb; cases hb⟩
    have ej6 : l.length - r5.length = j5 := by omega
    refine ⟨xs ++ [v5], ps ++ [p5], rfl, by omega, by rw [ej6]; exact g6.write fD nDa _, upd_same, (hx5.snoc (hv5.imp nn)).write hD5 fun l hl => hl.2, by rw [List.length_append, List.length_singleton]; omega, ?_⟩
    rw [e3, ep5, ej6, ej5]
    show ((rdM (rdP k) m r5).map fun y => (p5 :: y.1, y.2)).map _ = _
    rw [rdM_fuel m (r5.length + 1) r5 (by omega) (by omega), Option.map_map]
    congr 1
    funext y
    show (ps ++ p5 :: y.1, y.2) = (ps ++ [p5] ++ y.1, y.2)
    rw [List.append_assoc]
    rfl
theorem h_next_paperX {C c_NoText : Addr} {bm : List Value} {d : Nat} (cl_PaperReader : Cls K C) (T : TM K C "next_paper" "PaperReader.next_paper" s_PaperReader_next_paper) (O_NoText : OX K mg "NoText" c_NoText bm) (c_MOST_DEPTH : CI mg "MOST_DEPTH" 40) (G_PaperReader_passes : HasM P w K mg base 1 C "passes" ["self", "signs"] (sp_passes C)) (G_PaperReader_needs : HasMX P w K mg base 2 C "needs" ["self", "signs"] (sp_needsX C c_NoText)) (G_PaperReader_next_number : HasMX P w K mg base 3 C "next_number" ["self"] (sp_nnumX C c_NoText)) (G_PaperReader_next_papers : HasMX P w K mg base (2 * d + 5) C "next_papers" ["self", "above"] (sp_npapsX K C c_NoText d)) : HasMX P w K mg base (2 * (d + 1) + 4) C "next_paper" ["self", "above"] (sp_npapX K C c_NoText (d + 1)) := by
  refine T.hasX sc_PaperReader_next_paper (fun _ _ _ _ _ _ us hl => match us, hl with | [_, _], _ => rfl) (fun vs H Q E h => ?_) (fun f cdv A outer s H vs Q E hr h => ?_)
  · obtain ⟨a, l, i, ab, rfl, _⟩ := h
    rfl
  obtain ⟨a, l, i, ab, rfl, hd, hl, li, ab1, hdp, qx, q⟩ := h
  have ll := hl.1
  have hd' := hd
  obtain ⟨dx, hd⟩ := hd
  refine ⟨_, (pss_cons (ps_if (pt_val (pe_mth (pv 0) cl_PaperReader (G_PaperReader_passes.mono (by first | decide | omega)) hr (pa_cons pe_str pa_nil)) (fun _ => rfl)) (pss_one (ps_ret (pe_tup (pa_cons pe_str (pa_cons (pe_mth0X (pv 0) cl_PaperReader (G_PaperReader_next_number.mono (by first | decide | omega)) hr passX) pa_nil))))) pss_nil) (pss_cons (ps_if (pt_cmpR op_eq (pv 1) (pe_ci rfl c_MOST_DEPTH) (nomark _)) (pss_one (ps_raise O_NoText rfl throwX (pa_cons pe_str pa_nil))) pss_nil) (pss_cons (ps_expr (pe_mthX (pv 0) cl_PaperReader (G_PaperReader_needs.mono (by first | decide | omega)) hr passX (pa_cons pe_str pa_nil))) (pss_cons (ps_set (i := 2) sc_PaperReader_next_paper.nd rfl (Or.inl rfl) (pe_mth0X (pv 0) cl_PaperReader (G_PaperReader_next_number.mono (by first | decide | omega)) hr passX)) (pss_cons (ps_expr (pe_mthX (pv 0) cl_PaperReader (G_PaperReader_needs.mono (by first | decide | omega)) hr passX (pa_cons pe_str pa_nil))) (pss_one (ps_ret (pe_tup (pa_cons pe_str (pa_cons (pv 2) (pa_cons (pe_mthX (pv 0) cl_PaperReader (G_PaperReader_next_papers.mono (by first | decide | omega)) hr passX (pa_cons (pe_op op_add (pv 1) pe_int) pa_nil)) pa_nil))))))))))), ?_⟩
  walk_at "wp"
  rw [inL_tx]
  refine ⟨a, dx, _, rfl, hd, fld_no, a, l, inL, i, rfl, hd', ll, li, by decide, by decide, fun c => ?_, fun c H1 g1 => ?_⟩
  · have c' : ¬ (l.drop i).take 3 = inL := c
    walk_at "wp"
    refine ⟨fun z => ⟨by decide, fun x hx => qx ?_ x H (Off.refl _ _) hx⟩, fun z => ⟨a, dx, _, rfl, hd, fld_no, ?_⟩⟩
    · rw [show 40 - ab = 0 by omega]
      exact rdP_zero c'
    obtain ⟨k, hk⟩ : ∃ k, 40 - ab = k + 1 := ⟨40 - ab - 1, by omega⟩
    have hk2 : 40 - (ab + 1) = k := by omega
    have er := rdP_succ (k := k) c'
    rw [hk, er] at qx q
    clear er hk
    unfold rdBy at qx q
    rw [byL_tx]
    refine ⟨a, l, byL, i, rfl, hd', ll, li, by decide, by decide, fun c2 x hx => qx (if_neg c2) x H (Off.refl _ _) hx, fun c2 H1 g1 => ?_⟩
    have c2' : (l.drop i).take 3 = byL := c2
    rw [if_pos c2'] at qx q
    have l3 := take_short c2' rfl
    rw [List.length_drop] at l3
    have b3 : byL.length = 3 := rfl
    have ed : (l.drop i).drop 3 = l.drop (i + byL.length) := by rw [List.drop_drop]; rfl
    rw [ed] at qx q
    have hd1 := g1.at_
    obtain ⟨d1, h1⟩ := g1.at_
    refine ⟨a, d1, _, rfl, h1, fld_no, a, l, _, rfl, hd1, hl, by omega, fun e x H2 g2 hx => qx (by rw [e]; rfl) x H2 (g1.off g2) hx, fun b r j H2 eb ej lj g2 => ?_⟩
    rw [eb] at qx q
    have qx' : ((if r.take 2 = opL then (rdPs (rdP k) (r.drop 2)).map fun y => (Pap.par b y.1, y.2) else none) = none → ∀ x H', Off a H H' → H' x = none → E (.ref c_NoText) (some x) H') := qx
    have q' : ∀ p r' j v H', ((if r.take 2 = opL then (rdPs (rdP k) (r.drop 2)).map fun y => (Pap.par b y.1, y.2) else none) = some (p, r')) → l.drop j = r' → j ≤ l.length → Rd C H H' a l j → PapIn K (fun b => H b = none) H' v p → Q v H' := q
    clear qx q
    have hd2 := g2.at_
    obtain ⟨d2, h2⟩ := g2.at_
    refine ⟨a, d2, _, rfl, h2, fld_no, ?_⟩
    rw [opL_tx]
    refine ⟨a, l, opL, _, rfl, hd2, ll, lj, by decide, by decide, ?_⟩
    rw [ej]
    refine ⟨fun c3 x hx => qx' (if_neg c3) x H2 ((g1.trans g2).off (Off.refl _ _)) hx, fun c3 H3 g3 => ?_⟩
    have c3' : r.take 2 = opL := c3
    rw [if_pos c3'] at qx' q'
    have l2 := take_short c3' rfl
    have lr := congrArg List.length ej
    rw [List.length_drop] at lr
    have o2 : opL.length = 2 := rfl
    have er2 : r.drop 2 = l.drop (j + opL.length) := by rw [← ej, List.drop_drop]; rfl
    rw [er2] at qx' q'
    have hd3 := g3.at_
    obtain ⟨d3, h3⟩ := g3.at_
    have G3 := (g1.trans g2).trans g3
    refine ⟨a, d3, _, rfl, h3, fld_no, a, l, _, ab + 1, by rw [show ((ab + 1 : Nat) : Int) = (ab : Int) + 1 by omega], hd3, hl, by omega, by omega, by omega, ?_⟩
    rw [hk2]
    refine ⟨fun e x H4 g4 hx => qx' (by rw [e]; rfl) x H4 (G3.off g4) hx, fun ps r4 j4 D xs H4 e4 ej4 lj4 g4 nD hD lx hx t nt => ?_⟩
    have nn : ∀ x, H3 x = none → H x = none := fun x hx => G3.free hx fun e => by rw [e, h3] at hx; cases hx
    have gt := same_new nt (.tup [V.str "parted", .int b, .ref D])
    exact q' (.par b ps) r4 j4 (.ref t) _ (by rw [e4]; rfl) ej4 lj4 ((G3.trans g4).new nt _) (.par upd_same (gt _ _ hD) (nn D nD) (by omega) ((hx.imp nn).mono gt))
  · have c' : (l.drop i).take 3 = inL := c
    rw [rdP_in c'] at qx q
    have ed : (l.drop i).drop 3 = l.drop (i + inL.length) := by rw [List.drop_drop]; rfl
    rw [ed] at qx q
    have l3 := take_short c' rfl
    rw [List.length_drop] at l3
    have i3 : inL.length = 3 := rfl
    walk_at "wp"
    have hd1 := g1.at_
    obtain ⟨d1, h1⟩ := g1.at_
    refine ⟨a, d1, _, rfl, h1, fld_no, a, l, _, rfl, hd1, hl, by omega, fun e x H2 g2 hx => qx (by rw [e]; rfl) x H2 (g1.off g2) hx, fun n r j H2 en ej lj g2 t nt => ?_⟩
    exact q (.inn n) r j (.ref t) _ (by rw [en]; rfl) ej lj ((g1.trans g2).new nt _) (.inn upd_same)
theorem h_next_zeroX {C c_NoText : Addr} (T : TM K C "next_paper" "PaperReader.next_paper" s_PaperReader_next_paper) : HasMX P w K mg base 4 C "next_paper" ["self", "above"] (sp_npapX K C c_NoText 0) := by
  refine T.hasX (k := 3) sc_PaperReader_next_paper (fun _ _ _ _ _ _ us hl => match us, hl with | [_, _], _ => rfl) (fun vs H Q E h => ?_) (fun f cdv A outer s H vs Q E hr h => ?_)
  · obtain ⟨_, _, _, _, _, _, _, _, h1, h2, _⟩ := h
    omega
  · obtain ⟨_, _, _, _, _, _, _, _, h1, h2, _⟩ := h
    omega
theorem h_next_allX {C c_NoText : Addr} {bm : List Value} (cl : Cls K C) (T1 : TM K C "next_paper" "PaperReader.next_paper" s_PaperReader_next_paper) (T2 : TM K C "next_papers" "PaperReader.next_papers" s_PaperReader_next_papers) (O_NoText : OX K mg "NoText" c_NoText bm) (c_MOST_DEPTH : CI mg "MOST_DEPTH" 40) (G1 : HasM P w K mg base 1 C "passes" ["self", "signs"] (sp_passes C)) (G2 : HasMX P w K mg base 2 C "needs" ["self", "signs"] (sp_needsX C c_NoText)) (G3 : HasMX P w K mg base 3 C "next_number" ["self"] (sp_nnumX C c_NoText)) : ∀ d : Nat, HasMX P w K mg base (2 * d + 4) C "next_paper" ["self", "above"] (sp_npapX K C c_NoText d)
  | 0 => h_next_zeroX T1
  | d + 1 => h_next_paperX cl T1 O_NoText c_MOST_DEPTH G1 G2 G3 (h_next_papersX cl T2 G1 G2 (h_next_allX cl T1 T2 O_NoText c_MOST_DEPTH G1 G2 G3 d))
def sp_rinit (C : Addr) : Sp := fun vs H Q _ => ∃ (x dx : Addr) (l : List Nat), vs = [.ref x, .str (tx l)] ∧ H x = some (.ins C dx []) ∧ ∀ H', Rd C H H' x l 0 → Q .non H'
theorem h_rinit {C : Addr} (X : RdTx K C) (T : TM K C "__init__" "PaperReader.__init__" s_PaperReader___init__) : HasM P w K mg base 1 C "__init__" ["self", "text"] (sp_rinit C) := by
  refine T.has sc_PaperReader___init__ (fun _ _ _ _ _ _ us hl => match us, hl with | [_, _], _ => rfl) (fun vs H Q E h => ?_) (fun f cdv A outer s H vs Q E hr h => ?_)
  · obtain ⟨x, dx, l, rfl, _⟩ := h
    rfl
  obtain ⟨x, dx, l, rfl, hx, q⟩ := h
  refine ⟨_, (pss_cons (ps_fld (pv 0) (pv 1) rfl) (pss_one (ps_fld (pv 0) pe_int rfl))), ?_⟩
  walk_at "wp"
  refine ⟨x, C, dx, [], rfl, hx, X.cl, X.nT, by decide, x, C, dx, _, rfl, upd_same, X.cl, X.nP, by show 1 < 1000; decide, ?_⟩
  have e : putF ("place" : Str) (.int 0) (putF ("text" : Str) (.str (tx l)) []) = flds l 0 := by
    show (if ("text" : Str) = "place" then _ else (("text" : Str), V.str (tx l)) :: putF ("place" : Str) (.int 0) []) = _
    rw [if_neg (by decide +kernel)]
    rfl
  rw [e]
  refine q _ ⟨⟨dx, upd_same⟩, fun b o hb e => ?_⟩
  rw [upd_ne hb, upd_ne hb]
  exact e
def sp_rpaperX (K : PySem.W.Frag) (N : Addr) : Sp := fun vs H Q E => ∃ l : List Nat, vs = [.str (tx l)] ∧ TxOk l ∧ ((∀ p, ¬ rdP 40 l = some (p, [])) → ∀ x H', Same H H' → H' x = none → E (.ref N) (some x) H') ∧ ∀ p v H', rdP 40 l = some (p, []) → Same H H' → PapIn K (fun b => H b = none) H' v p → Q v H'
theorem h_read_paperX {C c_NoText : Addr} {bm : List Value} (X : RdTx K C) (cl_PaperReader : Cls K C) (mk_PaperReader : PySem.W.makesIn K C = true) (kc_PaperReader : PySem.W.keepIn K (.ref C) = true) (mg_PaperReader : mg "PaperReader" = some (.ref C)) (O_NoText : OX K mg "NoText" c_NoText bm) (T : TF K mg "read_paper" s_read_paper) (m_len : mg "len" = none) (G_PaperReader___init__ : HasM P w K mg base 1 C "__init__" ["self", "text"] (sp_rinit C)) (G_PaperReader_next_paper : HasMX P w K mg base (2 * 41 + 4) C "next_paper" ["self", "above"] (sp_npapX K C c_NoText 41)) : HasX P w K mg base 87 "read_paper" ["text"] (sp_rpaperX K c_NoText) := by
  refine T.hasX sc_read_paper (fun _ _ _ _ _ _ us hl => match us, hl with | [_], _ => rfl) (fun vs H Q E h => ?_) (fun f cdv A outer s H vs Q E hr h => ?_)
  · obtain ⟨l, rfl, _⟩ := h
    rfl
  obtain ⟨l, rfl, hl, qx, q⟩ := h
  refine ⟨_, (pss_cons (ps_set (i := 1) sc_read_paper.nd rfl (Or.inl rfl) (pe_mk (G_PaperReader___init__.mono (by first | decide | omega)) mk_PaperReader kc_PaperReader hr rfl mg_PaperReader (pa_cons (pv 0) pa_nil))) (pss_cons (ps_set (i := 2) sc_read_paper.nd rfl (Or.inl rfl) (pe_mthX (pv 1) cl_PaperReader (G_PaperReader_next_paper.mono (by first | decide | omega)) hr passX (pa_cons pe_int pa_nil))) (pss_cons (ps_if (pt_cmpR op_ne (pe_fld (pv 1) rfl) (pe_callB call_len_str rfl m_len PySem.boot_len (pa_cons (pv 0) pa_nil)) (nomark _)) (pss_one (ps_raise O_NoText rfl throwX (pa_cons pe_str pa_nil))) pss_nil) (pss_one (ps_ret (pv 2)))))), ?_⟩
  have ll := hl.1
  walk_at "wp"
  intro x dx nx ndx hne
  refine ⟨x, dx, l, rfl, upd_same, fun H1 g1 => ⟨rfl, ?_⟩⟩
  have hd1 := g1.at_
  obtain ⟨d1, h1⟩ := g1.at_
  have S1 : Same H H1 := fun b o e => g1.same b o (ne_of_none e nx) (by rw [upd_ne (ne_of_none e nx), upd_ne (ne_of_none e ndx)]; exact e)
  walk_at "wp"
  refine ⟨x, d1, _, rfl, h1, fld_no, x, l, 0, 0, rfl, hd1, hl, Nat.zero_le _, by decide, by decide, fun e y H2 g2 hy => qx (fun p k => ?_) y H2 (fun b o e => g2 b o (ne_of_none e nx) (S1 b o e)) hy, fun p r j v H2 ep ej lj g2 hv => ?_⟩
  · have e' : rdP 40 l = none := e
    rw [e'] at k
    cases k
  have ep' : rdP 40 l = some (p, r) := ep
  obtain ⟨d2, h2⟩ := g2.at_
  have S2 : Same H H2 := fun b o e => g2.same b o (ne_of_none e nx) (S1 b o e)
  walk_at "wp"
  refine ⟨x, C, d2, _, _, rfl, h2, X.cl, X.nP, fld_place _ _, ?_⟩
  walk_at "wp"
  refine ⟨tx l, rfl, by rw [tx_len]; omega, ?_⟩
  rw [tx_len]
  have lr := congrArg List.length ej
  rw [List.length_drop] at lr
  refine ⟨fun c => ⟨by decide, fun y hy => qx (fun p' k => ?_) y H2 S2 hy⟩, fun c => q p v H2 ?_ S2 (hv.imp fun b hb => S1.free hb)⟩
  · rw [ep'] at k
    injection k with k
    injection k with k1 k2
    rw [k2] at lr
    have : l.length - j = 0 := lr
    exact c (by omega)
  · have : r = [] := List.eq_nil_of_length_eq_zero (by omega)
    rw [ep', this]

end
end SMk74
namespace SMk74
open PySem L2 SM
section
variable {P : Program} {w : World} {K : PySem.W.Frag} {mg : Str → Option Value} {base : Heap}
theorem ptxr_cnt : ∀ ps : List Pap, ps.length ≤ (ptxr ps).length ∧ ∀ p ∈ ps, (ptx p).length ≤ (ptxr ps).length - 2
  | [] => ⟨Nat.le_refl _, fun p hp => nomatch hp⟩
  | p :: ps => by
    obtain ⟨a, b⟩ := ptxr_cnt ps
    have c2 : cmL.length = 2 := rfl
    simp only [ptxr, List.length_append, List.length_cons]
    refine ⟨by omega, fun q hq => ?_⟩
    rcases List.mem_cons.mp hq with rfl | hq
    · omega
    · have := b q hq
      omega
theorem ptxs_cnt (ps : List Pap) : (ptxr ps).length ≤ (ptxs ps).length + 2 := by
  cases ps with
  | nil => simp [ptxr]
  | cons p ps =>
    have c2 : cmL.length = 2 := rfl
    simp only [ptxr, ptxs, List.length_append]
    omega
def sp_shown (K : PySem.W.Frag) (d : Nat) : Sp := fun vs H Q _ => ∃ (v : V) (p : Pap), vs = [v] ∧ PapIn K anyL H v p ∧ POk p ∧ (ptx p).length ≤ 100000 ∧ p.dep < d ∧ ∀ H', Same H H' → Q (.str (tx (ptx p))) H'
theorem comp_txs {d : Nat} {D : Addr} {xs : List V} {ps : List Pap} {own : List Str} {fr : List Nat} {σ : St} {H : Hp} {Q : VK} (hD : H D = some (.lst xs)) (hx : PapsIn K anyL H xs ps) (ok : POks ps) (kp : (ptxs ps).length ≤ 100000) (dp : Pap.deps ps < d) (hst : st0 own fr σ = [none]) (hq : ∀ (F : Addr) (H' : Hp), Same H H' → H F = none → H' F = some (.lst ((ps.map fun p => tx (ptx p)).map V.str)) → Q (.ref F) H') :
    CompW (Itl K D) (gName 0) tTrue (tCall (sp_shown K d) [] E0 (tCons (tVar 0) tNil)) own fr σ H Q := by
  have ln := ptxr_cnt ps
  have l2 := ptxs_cnt ps
  have lx := hx.len
  obtain ⟨Sv, hSv⟩ : ∃ Sv : St → Prop, Sv = fun σ => ∃ o1, σ = [o1] := ⟨_, rfl⟩
  obtain ⟨Pv, hPv⟩ : ∃ Pv : Addr → Nat → List V → Hp → Prop, Pv = fun D2 i ys H2 => H D2 = none ∧ Same H H2 ∧ ys = ((ps.take i).map fun p => tx (ptx p)).map V.str := ⟨_, rfl⟩
  refine compW_list (xs := xs) Sv Pv (by rw [hSv, hst]; exact ⟨none, rfl⟩) (fun D2 hD2 => ?_) (fun D2 i ys H2 hD2 h => ?_) (fun D2 i x ys σ H2 hx' hi hs hD2 hy h => ?_) (fun D2 ys H2 hD2 h => ?_)
  · rw [hPv]
    exact ⟨hD2, same_new hD2 _, rfl⟩
  · rw [hPv] at h
    exact SqL.of (h.2.1 _ _ hD)
  · rw [hSv] at hs
    rw [hPv] at h
    obtain ⟨o1, rfl⟩ := hs
    obtain ⟨nD2, g, rfl⟩ := h
    obtain ⟨p, ep, hp⟩ := hx.at hx'
    have mp := List.mem_of_getElem? ep
    have k1 := ln.2 p mp
    have k2 := Pap.dep_mem mp
    walk_at "wp"
    refine ⟨x, p, rfl, hp.mono g, ok.mem p mp, by omega, by omega, fun H3 g3 => ?_⟩
    refine CompP.mk (g3 _ _ hD2) hy (by rw [sizeLine_eq]; omega) (by rw [hSv]; exact ⟨_, rfl⟩) (by
      rw [hPv]
      refine ⟨nD2, (g.trans g3).write nD2 _, ?_⟩
      rw [List.take_add_one, ep]
      simp)
  · rw [hPv] at h
    obtain ⟨nD2, g, rfl⟩ := h
    rw [lx, List.take_length] at hD2
    exact hq D2 H2 g nD2 hD2
theorem fold_txs : ∀ (ps : List Pap) (k : Nat), (ps.map fun p => tx (ptx p)).foldl (· + ·.length + (tx cmL).length) k ≤ k + (ptxr ps).length
  | [], k => by simp
  | p :: ps, k => by
    have h2 := fold_txs ps (k + (tx (ptx p)).length + (tx cmL).length)
    have h3 : cmL.length = 2 := rfl
    rw [List.map_cons, List.foldl_cons]
    simp only [ptxr, List.length_append]
    simp only [tx_len] at h2 ⊢
    omega
theorem join_txs {ps : List Pap} (kp : (ptxs ps).length ≤ 100000) : (ps.map fun p => tx (ptx p)).toArray.foldl (· + ·.length + (tx cmL).length) 0 ≤ 16777216 ∧ (Builtin.Str.glued (tx cmL) (ps.map fun p => tx (ptx p))).length ≤ 16777216 := by
  have ln := ptxs_cnt ps
  constructor
  · rw [List.foldl_toArray]
    have := fold_txs ps 0
    omega
  · rw [glued_cm, tx_len]
    omega
theorem eE : Str.empty = tx [] := rfl
theorem h_shown_paper (T : TF K mg "shown_paper" s_shown_paper) : ∀ d : Nat, Has P w K mg base (d + 1) "shown_paper" ["paper"] (sp_shown K d) := by
  intro d
  induction d with
  | zero =>
    refine T.has sc_shown_paper (fun _ _ _ _ _ _ us hl => match us, hl with | [_], _ => rfl) (fun vs H Q E h => ?_) (fun f cdv A outer s H vs Q E hr h => ?_)
    · obtain ⟨_, _, _, _, _, _, h, _⟩ := h
      exact absurd h (Nat.not_lt_zero _)
    · obtain ⟨_, _, _, _, _, _, h, _⟩ := h
      exact absurd h (Nat.not_lt_zero _)
  | succ d ih =>
  have G_shown_paper := ih
  refine T.has sc_shown_paper (fun _ _ _ _ _ _ us hl => match us, hl with | [_], _ => rfl) (fun vs H Q E h => ?_) (fun f cdv A outer s H vs Q E hr h => ?_)
  · obtain ⟨v, p, rfl, _⟩ := h
    rfl
  obtain ⟨v, p, rfl, hv, ok, kp, dp, q⟩ := h
  refine ⟨_, (pss_cons (ps_set (i := 1) sc_shown_paper.nd rfl (Or.inl rfl) (pe_ix ix_tup (pv 0) pe_int (fun _ _ => rfl))) (pss_cons (ps_if (pt_cmpR op_eq (pe_ix ix_tup (pv 0) pe_int (fun _ _ => rfl)) pe_str (nomark _)) (pss_one (ps_ret (pe_join (pj_cons pe_str (pj_cons (pe_fmt (pv 1)) pj_nil))))) pss_nil) (pss_cons (ps_set (i := 2) sc_shown_paper.nd rfl (Or.inl rfl) (pe_bm PySem.F.plainAttrs_str PySem.F.slot_str_join PySem.F.type_str_join mt_join pe_str (pa_cons (pe_comp (CompSc.none (own := ["below"]) (by decide +kernel) (by decide +kernel) rfl (by decide +kernel)) rfl (pi_list (pe_ix ix_tup (pv 0) pe_int (fun _ _ => rfl))) (fun _ _ _ => (pg_name (i := 0) (show (["below"] : List Str).Nodup from by decide +kernel) rfl (Or.inl rfl) (Or.inr rfl))) (fun _ _ _ => pts_nil) (fun _ _ _ => (pe_def (G_shown_paper.mono (by first | decide | omega)) hr (pa_cons (pv 0) pa_nil)))) pa_nil))) (pss_one (ps_ret (pe_join (pj_cons pe_str (pj_cons (pe_fmt (pv 1)) (pj_cons pe_str (pj_cons (pe_fmt (pv 2)) (pj_cons pe_str pj_nil))))))))))), ?_⟩
  cases hv with
  | @inn b0 k hb =>
    have hT : SqT K H b0 [.str "in", .int k] := SqT.of hb
    have dk := ok.inn
    have l1 := dk.len
    have e1 : Str.empty ++ tx inL = tx inL := by rw [eE, tx_app]; rfl
    have e2 : tx inL ++ tx (dg k) = tx (ptx (.inn k)) := by rw [tx_app]; simp only [ptx]
    have l2 : (ptx (.inn k)).length ≤ 1000 := by simp only [ptx, List.length_append, inL, List.length_cons, List.length_nil]; omega
    walk_at "wp"
    refine ⟨_, _, _, .int k, rfl, rfl, hT, rfl, _, _, _, .str "in", rfl, rfl, hT, rfl, rfl, _, rfl, fun _ => ?_, fun c => absurd (decide_eq_true rfl) c⟩
    rw [inL_tx]
    refine ⟨_, rfl, by rw [e1, tx_len]; decide, .inl ⟨k, rfl, dk.sz, _, rfl, ?_⟩⟩
    rw [dg_text, e1, e2, tx_len]
    exact ⟨by omega, by omega, q H (Same.refl H)⟩
  | @par b0 l bb zs ps hb hl _ lz hs =>
    have hT : SqT K H b0 [.str "parted", .int bb, .ref l] := SqT.of hb
    obtain ⟨okb, oks⟩ := ok.par
    simp only [Pap.dep] at dp
    have kp' := kp
    simp only [ptx, List.length_append] at kp'
    have l1 := okb.len
    have e1 : Str.empty ++ tx byL = tx byL := by rw [eE, tx_app]; rfl
    have e5 : tx byL ++ tx (dg bb) ++ tx opL ++ tx (ptxs ps) ++ tx clL = tx (ptx (.par bb ps)) := by
      rw [tx_app, tx_app, tx_app, tx_app]
      simp only [ptx, List.append_assoc]
    walk_at "wp"
    refine ⟨_, _, _, .int bb, rfl, rfl, hT, rfl, _, _, _, .str "parted", rfl, rfl, hT, rfl, rfl, _, rfl, fun c => absurd (of_decide_eq_true c) (by decide +kernel), fun _ => ⟨rfl, _, _, _, .ref l, rfl, rfl, hT, rfl, _, rfl, ⟨_, SqL.of hl⟩, ?_⟩⟩
    refine comp_txs hl hs oks (by omega) (by omega) rfl fun F H1 g1 nF hF => ?_
    have jt := join_txs (ps := ps) (by omega)
    rw [cmL_tx, byL_tx, opL_tx, clL_tx]
    refine ⟨_, F, _, rfl, rfl, SqL.of hF, jt.1, jt.2, ?_⟩
    rw [glued_cm]
    have b3 : byL.length = 3 := rfl
    have o2 : opL.length = 2 := rfl
    have c1 : clL.length = 1 := rfl
    refine ⟨_, rfl, by rw [e1, tx_len]; decide, .inl ⟨bb, rfl, okb.sz, _, rfl, ?_⟩⟩
    rw [dg_text, e1]
    refine ⟨by rw [tx_app, tx_len, List.length_append]; omega, _, rfl, by rw [tx_app, tx_app, tx_len, List.length_append, List.length_append]; omega, .inr ⟨_, rfl, by rw [tx_len]; omega, _, rfl, ?_⟩⟩
    refine ⟨by rw [tx_app, tx_app, tx_app, tx_len, List.length_append, List.length_append, List.length_append]; omega, _, rfl, ?_⟩
    rw [e5, tx_len]
    have l5 : (ptx (.par bb ps)).length ≤ 100000 := by
      simp only [ptx, List.length_append]
      omega
    exact ⟨by omega, by omega, q H1 g1⟩

theorem sliceIdx_over (l : Option Int) {u : Int} {len : Nat} (h : (len : Int) ≤ u) : Builtin.Str.strSliceIndices l (some u) 1 len = Builtin.Str.strSliceIndices l (some (len : Int)) 1 len := by
  have a : ¬ ((len : Int) < 0) := by omega
  have b : ¬ (u < 0) := by omega
  have c : min u (len : Int) = len := by omega
  simp [Builtin.Str.strSliceIndices, a, b, c]
theorem slice_lo {l : List Nat} {i n : Nat} (hi : i ≤ l.length) : Txt.slice (tx l) (some (i : Int)) (some ((i : Int) + (n : Int))) = tx ((l.drop i).take n) := by
  rcases Nat.le_total (i + n) l.length with z | z
  · have := slice_at (l := l) (i := i) (j := i + n) (by omega) z
    rw [show ((i : Int) + (n : Int)) = ((i + n : Nat) : Int) by omega, this]
    rw [show i + n - i = n by omega]
  · have e : Txt.slice (tx l) (some (i : Int)) (some ((i : Int) + (n : Int))) = Txt.slice (tx l) (some (i : Int)) (some (l.length : Int)) := by
      show StrLaws.sliceText _ _ _ = StrLaws.sliceText _ _ _
      unfold StrLaws.sliceText
      rw [tx_len, sliceIdx_over _ (by omega)]
    rw [e, slice_at hi (Nat.le_refl _), List.take_of_length_le (by rw [List.length_drop]; omega), List.take_of_length_le (by rw [List.length_drop]; omega)]
def sp_fend : Sp := fun vs H Q _ => ∃ (l : List Nat) (i : Nat), vs = [.str (tx l), .int (i : Int)] ∧ TxOk l ∧ i ≤ l.length ∧ (rdN (l.drop i) = none → Q (.int (-1)) H) ∧ ∀ n r (j : Nat), rdN (l.drop i) = some (n, r) → l.drop j = r → j ≤ l.length → i < j → Q (.int (j : Int)) H
theorem h_law_figures_end (T : TF K mg "_law_figures_end" s_law_figures_end) (m_len : mg "len" = none) : Has P w K mg base 1 "_law_figures_end" ["text", "at"] sp_fend := by
  refine T.has sc_law_figures_end (fun _ _ _ _ _ _ us hl => match us, hl with | [_, _], _ => rfl) (fun vs H Q E h => ?_) (fun f cdv A outer s H vs Q E hr h => ?_)
  · obtain ⟨l, i, rfl, _⟩ := h
    rfl
  obtain ⟨l, i, rfl, hl, li, qx, q⟩ := h
  have ll := hl.1
  have el : l.drop i = (l.drop i).takeWhile figB ++ (l.drop i).dropWhile figB := (List.takeWhile_append_dropWhile).symm
  have nf := noFig_drop (l.drop i)
  have al : ∀ c ∈ (l.drop i).takeWhile figB, 48 ≤ c ∧ c ≤ 57 := fun c hc => by
    have := List.all_eq_true.mp (List.all_takeWhile (p := figB) (l := l.drop i)) c hc
    exact of_decide_eq_true this
  have en : rdN (l.drop i) = (rdNum ((l.drop i).takeWhile figB)).map fun n => (n, (l.drop i).dropWhile figB) := rfl
  generalize (l.drop i).takeWhile figB = t at el al en
  generalize (l.drop i).dropWhile figB = r at el nf en
  have ld := congrArg List.length el
  rw [List.length_drop, List.length_append] at ld
  have tl := tx_len l
  have at_ : ∀ j : Nat, (l.drop i)[j]? = l[i + j]? := fun j => by rw [List.getElem?_drop]
  refine ⟨_, (pss_cons (ps_set (i := 2) sc_law_figures_end.nd rfl (Or.inl rfl) (pv 1)) (pss_cons (ps_cut (ps_while PassesOwn.never (PW.pt (pw_and (pt_cmpR op_lt (pv 2) (pe_callB call_len_str rfl m_len PySem.boot_len (pa_cons (pv 0) pa_nil)) (nomark _)) (pw_and1 (pt_cmpR op_in_str (pe_ix ix_str (pv 0) (pv 2) (fun _ _ => rfl)) pe_str rfl)))) (pss_one (ps_set (i := 2) sc_law_figures_end.nd rfl (Or.inl rfl) (pe_op op_add (pv 2) pe_int))))) (pss_cons (ps_if (PW.pt (pw_or (pt_cmpR op_eq (pv 2) (pv 1) (nomark _)) (pw_or (pt_cmpR op_gt (pe_op op_sub (pv 2) (pv 1)) pe_int (nomark _)) (pw_or1 (PW.pt (pw_and (pt_cmpR op_eq (pe_ix ix_str (pv 0) (pv 1) (fun _ _ => rfl)) pe_str (nomark _)) (pw_and1 (pt_cmpR op_gt (pe_op op_sub (pv 2) (pv 1)) pe_int (nomark _))))))))) (pss_one (ps_ret (pe_un un_neg pe_int))) pss_nil) (pss_one (ps_ret (pv 2)))))), ?_⟩
  walk_at "wp"
  refine ⟨fun σ H' => σ = [some (.str (tx l)), some (.int (i : Int)), some (.int ((i + t.length : Nat) : Int))] ∧ H' = H, ?_, ?_⟩
  · obtain ⟨W, hW⟩ : ∃ W : Nat → St → Hp → Prop, W = fun m σ H' => ∃ j : Nat, σ = [some (.str (tx l)), some (.int (i : Int)), some (.int ((i + j : Nat) : Int))] ∧ H' = H ∧ j ≤ t.length ∧ m = t.length - j := ⟨_, rfl⟩
    refine ⟨W, ⟨_, by rw [hW]; exact ⟨0, rfl, rfl, Nat.zero_le _, rfl⟩⟩, fun m σ H' h => ?_⟩
    rw [hW] at h
    obtain ⟨j, rfl, rfl, hj, rfl⟩ := h
    walk_at "wp"
    refine ⟨tx l, rfl, by omega, fun c => ?_, fun c => by rw [show j = t.length by omega]⟩
    have c' : i + j < l.length := by omega
    have gj : (t ++ r)[j]? = some l[i + j] := by rw [← el, at_, List.getElem?_eq_getElem c']
    have ok : 48 ≤ l[i + j] ∧ l[i + j] ≤ 57 → j < t.length := fun fg => by
      by_cases k : j < t.length
      · exact k
      · exfalso
        rw [List.getElem?_append_right (by omega), show j - t.length = 0 by omega] at gj
        exact nf _ gj fg
    refine ⟨_, _, l[i + j], rfl, rfl, by rw [tl]; show _ ≤ 16777216; omega, by rw [tx_list]; exact atI_nat (List.getElem?_eq_getElem c'), _, _, rfl, rfl, fun z => ⟨_, fun _ _ h => h, t.length - (j + 1), ?_, ?_⟩, fun z => ?_⟩
    · have := ok (fig73.mp z)
      omega
    · have e : ((i + j : Nat) : Int) + 1 = ((i + (j + 1) : Nat) : Int) := by omega
      rw [e, hW]
      exact ⟨j + 1, rfl, rfl, ok (fig73.mp z), rfl⟩
    · by_cases k : j < t.length
      · rw [List.getElem?_append_left k] at gj
        exact absurd (fig73.mpr (al _ (List.mem_of_getElem? gj))) z
      · exact ⟨by rw [show j = t.length by omega], rfl⟩
  rintro σ H' ⟨rfl, rfl⟩
  walk_at "wp"
  have no : figsB t = false → Q (.int (-1)) H' := fun e => qx (by
    rw [en]
    unfold rdNum
    rw [if_neg (by rw [e]; decide)]
    rfl)
  refine ⟨fun c => no ?_, fun c => ⟨fun c1 => no ?_, fun c1 => ?_⟩⟩
  · have : t.length = 0 := by omega
    unfold figsB
    rw [decide_eq_false (by omega)]
    rfl
  · unfold figsB
    rw [decide_eq_false (p := t.length ≤ 100) (by omega)]
    simp
  have t1 : 1 ≤ t.length := by omega
  obtain ⟨c0, r0, rfl⟩ : ∃ c r, t = c :: r := by
    cases t with
    | nil => simp at t1
    | cons x0 y0 => exact ⟨x0, y0, rfl⟩
  have yes : ¬ ((c0 :: r0)[0]? = some 48 ∧ 1 < (c0 :: r0).length) → Q (.int ((i + (c0 :: r0).length : Nat) : Int)) H' := fun k => by
    have f : figsB (c0 :: r0) = true := figs_iff.mpr ⟨t1, by omega, k, al⟩
    refine q _ r (i + (c0 :: r0).length) (by
      rw [en]
      unfold rdNum
      rw [if_pos f]
      rfl) (drop_app el) (by omega) (by omega)
  have g0 : l[i]? = some c0 := by
    have := at_ 0
    rw [el] at this
    simpa using this.symm
  refine ⟨_, _, c0, rfl, rfl, by rw [tl]; show _ ≤ 16777216; omega, by rw [tx_list]; exact atI_nat g0, rfl, _, rfl, fun z0 => ⟨fun c2 => no ?_, fun c2 => yes fun k => by omega⟩, fun z0 => yes fun k => z0 (decide_eq_true ?_)⟩
  · have z1 := V.str.inj (of_decide_eq_true z0)
    rw [zero_tx, sign_eq] at z1
    unfold figsB
    rw [decide_eq_true (p := (c0 :: r0)[0]? = some 48) (by rw [z1]; rfl), decide_eq_true (p := 1 < (c0 :: r0).length) (by omega)]
    simp
  · have := k.1
    have e1 : c0 = 48 := by simpa using this
    rw [zero_tx, e1]
theorem tx_ne {k l : List Nat} : (tx k = tx l) ↔ k = l := by
  constructor
  · intro h
    have : (tx k).cps.toList = (tx l).cps.toList := by rw [h]
    rwa [tx_list, tx_list] at this
  · rintro rfl
    rfl
theorem knot_head {l r : List Nat} {b : Bool} (h : knot l = some (b, r)) : (l.take 1 = [98] ↔ b = true) := by
  unfold knot at h
  split at h
  · rename_i c
    obtain ⟨x, _, h⟩ := Option.map_eq_some_iff.mp h
    cases h
    have e := congrArg (List.take 1) c
    rw [List.take_take] at e
    rw [show min 1 3 = 1 by decide] at e
    rw [e]
    decide
  · split at h
    · rename_i c
      obtain ⟨x, _, h⟩ := Option.bind_eq_some_iff.mp h
      split at h
      · cases h
        have e := congrArg (List.take 1) c
        rw [List.take_take] at e
        rw [show min 1 3 = 1 by decide] at e
        rw [e]
        decide
      · cases h
    · cases h
theorem eqT {l k : List Nat} {H : Hp} {Q : VK} (q : Q (.bl (decide (l = k))) H) : rEq (.str (tx l)) (.str (tx k)) H Q := by
  refine ⟨rfl, ?_⟩
  have : decide (V.str (tx l) = V.str (tx k)) = decide (l = k) := decide_eq_decide.mpr ⟨fun h => tx_ne.mp (V.str.inj h), fun h => by rw [h]⟩
  rw [this]
  exact q
theorem neT {l k : List Nat} {H : Hp} {Q : VK} (q : Q (.bl (!decide (l = k))) H) : rNe (.str (tx l)) (.str (tx k)) H Q := by
  refine ⟨rfl, ?_⟩
  have : decide (V.str (tx l) = V.str (tx k)) = decide (l = k) := decide_eq_decide.mpr ⟨fun h => tx_ne.mp (V.str.inj h), fun h => by rw [h]⟩
  rw [this]
  exact q
theorem head_take {l : List Nat} {i c : Nat} {r : List Nat} (h : (l.drop i).take 3 = c :: r) : l[i]? = some c := by
  have e := congrArg (fun x : List Nat => x[0]?) h
  simp only [List.getElem?_take] at e
  rw [if_pos (by decide), List.getElem?_drop] at e
  exact e
theorem nb {b : Bool} (h : (!b) = true) : ¬ b = true := by
  cases b
  · decide
  · cases h
theorem nb2 {b : Bool} (h : ¬ (!b) = true) : b = true := by
  cases b
  · exact absurd rfl h
  · rfl
theorem knot_i {l : List Nat} (h : l.take 3 = inL) : knot l = (rdN (l.drop 3)).map fun x => (false, x.2) := if_pos h
theorem knot_b {l : List Nat} (h : l.take 3 = byL) : knot l = (rdN (l.drop 3)).bind fun x => if x.2.take 2 = opL then some (true, x.2.drop 2) else none := by
  unfold knot
  rw [if_neg (by rw [h]; decide), if_pos h]
def sp_kend : Sp := fun vs H Q _ => ∃ (l : List Nat) (i : Nat), vs = [.str (tx l), .int (i : Int)] ∧ TxOk l ∧ i ≤ l.length ∧ (knot (l.drop i) = none → Q (.int (-1)) H) ∧ ∀ b r (j : Nat), knot (l.drop i) = some (b, r) → l.drop j = r → j ≤ l.length → Q (.int (j : Int)) H
theorem h_law_knot_end (T : TF K mg "_law_knot_end" s_law_knot_end) (G_law_figures_end : Has P w K mg base 1 "_law_figures_end" ["text", "at"] sp_fend) : Has P w K mg base 2 "_law_knot_end" ["text", "at"] sp_kend := by
  refine T.has sc_law_knot_end (fun _ _ _ _ _ _ us hl => match us, hl with | [_, _], _ => rfl) (fun vs H Q E h => ?_) (fun f cdv A outer s H vs Q E hr h => ?_)
  · obtain ⟨l, i, rfl, _⟩ := h
    rfl
  obtain ⟨l, i, rfl, hl, li, qx, q⟩ := h
  have ll := hl.1
  have tl := tx_len l
  have e16 : sizeLine = 16777216 := rfl
  refine ⟨_, (pss_cons (ps_cut (ps_if (PW.pt (pw_and (pt_cmpR op_ne (pe_slice sl_str (pv 0) (po_some (pv 1)) (po_some (pe_op op_add (pv 1) pe_int))) pe_str (nomark _)) (pw_and1 (pt_cmpR op_ne (pe_slice sl_str (pv 0) (po_some (pv 1)) (po_some (pe_op op_add (pv 1) pe_int))) pe_str (nomark _))))) (pss_one (ps_ret (pe_un un_neg pe_int))) pss_nil)) (pss_cons (ps_set (i := 2) sc_law_knot_end.nd rfl (Or.inl rfl) (pe_def (G_law_figures_end.mono (by first | decide | omega)) hr (pa_cons (pv 0) (pa_cons (pe_op op_add (pv 1) pe_int) pa_nil)))) (pss_cons (ps_if (PW.pt (pw_or (pt_cmpR op_lt (pv 2) pe_int (nomark _)) (pw_or1 (pt_cmpR op_eq (pe_ix ix_str (pv 0) (pv 1) (fun _ _ => rfl)) pe_str (nomark _))))) (pss_one (ps_ret (pv 2))) pss_nil) (pss_cons (ps_if (pt_cmpR op_ne (pe_slice sl_str (pv 0) (po_some (pv 2)) (po_some (pe_op op_add (pv 2) pe_int))) pe_str (nomark _)) (pss_one (ps_ret (pe_un un_neg pe_int))) pss_nil) (pss_one (ps_ret (pe_op op_add (pv 2) pe_int))))))), ?_⟩
  walk_at "wp"
  refine ⟨fun σ H' => σ = [some (.str (tx l)), some (.int (i : Int)), none] ∧ H' = H ∧ ((l.drop i).take 3 = inL ∨ (l.drop i).take 3 = byL), ?_, ?_⟩
  · walk_at "wp"
    have sl3 : Txt.slice (tx l) (some (i : Int)) (some ((i : Int) + 3)) = tx ((l.drop i).take 3) := slice_lo (n := 3) li
    refine ⟨_, rfl, by rw [tl, e16]; omega, ?_⟩
    rw [sl3, inL_tx]
    refine neT ⟨_, rfl, fun c1 => ⟨_, rfl, by rw [tl, e16]; omega, ?_⟩, fun c1 => ⟨rfl, .inl (of_decide_eq_true (nb2 c1))⟩⟩
    rw [sl3, byL_tx]
    refine neT ⟨_, rfl, fun c2 => qx ?_, fun c2 => ⟨rfl, .inr (of_decide_eq_true (nb2 c2))⟩⟩
    unfold knot
    rw [if_neg (fun z => nb c1 (decide_eq_true z)), if_neg (fun z => nb c2 (decide_eq_true z))]
  rintro σ H' ⟨rfl, rfl, hk⟩
  walk_at "wp"
  have l3 : 3 ≤ l.length - i := by
    rw [← List.length_drop]
    rcases hk with z | z <;> exact take_short z rfl
  have dd : (l.drop i).drop 3 = l.drop (i + 3) := by rw [List.drop_drop]
  refine ⟨l, i + 3, by rw [show ((i + 3 : Nat) : Int) = (i : Int) + 3 by omega], hl, by omega, fun en => ?_, fun n r j en ej lj hj => ?_⟩
  · refine ⟨_, _, rfl, rfl, _, rfl, fun _ => qx ?_, fun c => absurd (decide_eq_true (by decide)) c⟩
    rw [← dd] at en
    rcases hk with z | z
    · rw [knot_i z, en]; rfl
    · rw [knot_b z, en]; rfl
  · rw [← dd] at en
    refine ⟨_, _, rfl, rfl, _, rfl, fun c => absurd (of_decide_eq_true c) (by omega), fun _ => ?_⟩
    have ic : Str.ofString "i" = ⟨#[105]⟩ := by decide +kernel
    rcases hk with z | z
    · have g0 := head_take z
      refine ⟨_, _, _, rfl, rfl, by rw [tl]; show _ ≤ 16777216; omega, by rw [tx_list]; exact atI_nat g0, rfl, _, rfl, fun _ => q false r j (by rw [knot_i z, en]; rfl) ej lj, fun c => absurd (decide_eq_true (by rw [ic])) c⟩
    · have g0 := head_take z
      refine ⟨_, _, _, rfl, rfl, by rw [tl]; show _ ≤ 16777216; omega, by rw [tx_list]; exact atI_nat g0, rfl, _, rfl, fun c => ?_, fun _ => ?_⟩
      · have := V.str.inj (of_decide_eq_true c)
        rw [ic, sign_eq] at this
        cases this
      · have sl2 : Txt.slice (tx l) (some (j : Int)) (some ((j : Int) + 2)) = tx ((l.drop j).take 2) := slice_lo (n := 2) lj
        refine ⟨_, rfl, _, _, rfl, rfl, _, rfl, _, rfl, by rw [tl, e16]; omega, ?_⟩
        rw [sl2, opL_tx, ej]
        refine neT ⟨_, rfl, fun c2 => qx ?_, fun c2 => ?_⟩
        · rw [knot_b z, en]
          exact if_neg fun z2 => nb c2 (decide_eq_true z2)
        · have c3 := of_decide_eq_true (nb2 c2)
          have l2 := take_short c3 rfl
          have lr := congrArg List.length ej
          rw [List.length_drop] at lr
          refine ⟨_, _, rfl, rfl, ?_⟩
          have e2 : (j : Int) + 2 = ((j + 2 : Nat) : Int) := by omega
          show Q (.int ((j : Int) + 2)) H'
          rw [e2]
          exact q true (r.drop 2) (j + 2) (by rw [knot_b z, en]; exact if_pos c3) (by rw [← ej, List.drop_drop]) (by omega)
def sp_writes : Sp := fun vs H Q _ => ∃ l : List Nat, vs = [.str (tx l)] ∧ TxOk l ∧ Q (.bl (mach (l.length + 1) true 0 l)) H
theorem h_law_writes (T : TF K mg "_law_writes" s_law_writes) (m_len : mg "len" = none) (m_int : mg "int" = none) (G_law_knot_end : Has P w K mg base 2 "_law_knot_end" ["text", "at"] sp_kend) : Has P w K mg base 3 "_law_writes" ["text"] sp_writes := by
  refine T.has sc_law_writes (fun _ _ _ _ _ _ us hl => match us, hl with | [_], _ => rfl) (fun vs H Q E h => ?_) (fun f cdv A outer s H vs Q E hr h => ?_)
  · obtain ⟨l, rfl, _⟩ := h
    rfl
  obtain ⟨l, rfl, hl, q⟩ := h
  have ll := hl.1
  have tl := tx_len l
  have e16 : sizeLine = 16777216 := rfl
  refine ⟨_, (pss_cons (ps_set (i := 1) sc_law_writes.nd rfl (Or.inl rfl) pe_int) (pss_cons (ps_set (i := 2) sc_law_writes.nd rfl (Or.inl rfl) pe_int) (pss_cons (ps_set (i := 3) sc_law_writes.nd rfl (Or.inl rfl) pe_bl) (pss_cons (ps_while PassesOwn.never (PW.pt (pw_and (pt_cmpR op_ge (pv 1) pe_int (nomark _)) (pw_and1 (pt_cmpR op_le (pv 2) pe_int (nomark _))))) (pss_one (ps_if (pt_val (pv 3) (fun _ => rfl)) (pss_cons (ps_set (i := 4) sc_law_writes.nd rfl (Or.inl rfl) (pe_cmpR op_eq (pe_slice sl_str (pv 0) (po_some (pv 1)) (po_some (pe_op op_add (pv 1) pe_int))) pe_str (nomark _))) (pss_cons (ps_set (i := 1) sc_law_writes.nd rfl (Or.inl rfl) (pe_def (G_law_knot_end.mono (by first | decide | omega)) hr (pa_cons (pv 0) (pa_cons (pv 1) pa_nil)))) (pss_cons (ps_if (pt_cmpR op_lt (pv 1) pe_int (nomark _)) (pss_one (ps_ret pe_bl)) pss_nil) (pss_cons (ps_set (i := 2) sc_law_writes.nd rfl (Or.inl rfl) (pe_op op_add (pv 2) (pe_callTy call_int_bl rfl m_int (by decide +kernel) (pa_cons (pv 4) pa_nil)))) (pss_one (ps_set (i := 3) sc_law_writes.nd rfl (Or.inl rfl) (pe_and (pv 4) (pe_one (pe_cmpR op_ne (pe_slice sl_str (pv 0) (po_some (pv 1)) (po_some (pe_op op_add (pv 1) pe_int))) pe_str (nomark _)))))))))) (pss_one (ps_if (pt_cmpR op_eq (pv 2) pe_int (nomark _)) (pss_one (ps_ret (pe_cmpR op_eq (pv 1) (pe_callB call_len_str rfl m_len PySem.boot_len (pa_cons (pv 0) pa_nil)) (nomark _)))) (pss_one (ps_if (pt_cmpR op_eq (pe_slice sl_str (pv 0) (po_some (pv 1)) (po_some (pe_op op_add (pv 1) pe_int))) pe_str (nomark _)) (pss_cons (ps_set (i := 1) sc_law_writes.nd rfl (Or.inl rfl) (pe_op op_add (pv 1) pe_int)) (pss_one (ps_set (i := 3) sc_law_writes.nd rfl (Or.inl rfl) pe_bl))) (pss_one (ps_if (pt_cmpR op_eq (pe_slice sl_str (pv 0) (po_some (pv 1)) (po_some (pe_op op_add (pv 1) pe_int))) pe_str (nomark _)) (pss_cons (ps_set (i := 1) sc_law_writes.nd rfl (Or.inl rfl) (pe_op op_add (pv 1) pe_int)) (pss_one (ps_set (i := 2) sc_law_writes.nd rfl (Or.inl rfl) (pe_op op_sub (pv 2) pe_int)))) (pss_one (ps_ret pe_bl))))))))))) (pss_one (ps_ret pe_bl)))))), ?_⟩
  walk_at "wp"
  obtain ⟨W, hW⟩ : ∃ W : Nat → St → Hp → Prop, W = fun m σ H' => ∃ (i j : Nat) (b : Bool) (o : Option V), σ = [some (.str (tx l)), some (.int (i : Int)), some (.int (j : Int)), some (.bl b), o] ∧ H' = H ∧ i ≤ l.length ∧ m = l.length - i ∧ mach (l.length + 1) true 0 l = mach (l.length - i + 1) b j (l.drop i) := ⟨_, rfl⟩
  refine ⟨W, ⟨_, by rw [hW]; exact ⟨0, 0, true, none, rfl, rfl, Nat.zero_le _, rfl, rfl⟩⟩, fun m σ H' h => ?_⟩
  rw [hW] at h
  obtain ⟨i, j, b, o, rfl, rfl, hi, rfl, em⟩ := h
  rw [em] at q
  have sl1 : Txt.slice (tx l) (some (i : Int)) (some ((i : Int) + 1)) = tx ((l.drop i).take 1) := slice_lo (n := 1) hi
  have sl2 : Txt.slice (tx l) (some (i : Int)) (some ((i : Int) + 2)) = tx ((l.drop i).take 2) := slice_lo (n := 2) hi
  have ldr : (l.drop i).length = l.length - i := List.length_drop
  have go : ∀ (i' j' : Nat) (b' : Bool) (o' : Option V) (N : St → Hp → Prop), i < i' → i' ≤ l.length → mach (l.length - i + 1) b j (l.drop i) = mach (l.length - i) b' j' (l.drop i') → ∃ m', m' < l.length - i ∧ W m' [some (.str (tx l)), some (.int (i' : Int)), some (.int (j' : Int)), some (.bl b'), o'] H' := fun i' j' b' o' N h1 h2 h3 => ⟨l.length - i', by omega, by
    rw [hW]
    refine ⟨i', j', b', o', rfl, rfl, h2, rfl, ?_⟩
    rw [em, h3]
    exact mach_fuel _ _ _ _ _ (by rw [List.length_drop]; omega) (by rw [List.length_drop]; omega)⟩
  have bT : Str.ofString "b" = tx [98] := by decide +kernel
  walk_at "wp"
  refine ⟨fun _ => ⟨fun cj => ?_, fun cj => ?_⟩, fun c => absurd (Int.natCast_nonneg _) c⟩
  · have nj : ¬ 40 < j := by omega
    refine ⟨fun σ' H'' => ∃ m', m' < l.length - i ∧ W m' σ' H'', fun _ _ h => h, fun cb => ?_, fun cb => ?_⟩
    · subst cb
      refine ⟨_, rfl, by rw [tl, e16]; omega, ?_⟩
      rw [sl1, bT]
      rw [mach_t, if_neg nj] at q
      refine eqT ⟨l, i, rfl, hl, hi, fun ek => ?_, fun bk r j2 ek ej lj => ?_⟩
      · rw [ek] at q
        exact ⟨_, _, rfl, rfl, _, rfl, fun _ => q, fun c => absurd (decide_eq_true (by decide)) c⟩
      · rw [ek] at q
        have hd := knot_head ek
        have lk := knot_len ek
        have lr := congrArg List.length ej
        rw [List.length_drop] at lr
        rw [ldr] at lk
        have hb : decide ((l.drop i).take 1 = [98]) = bk := by
          rw [Bool.eq_iff_iff, decide_eq_true_eq]
          exact hd
        rw [hb]
        refine ⟨_, _, rfl, rfl, _, rfl, fun c => absurd (of_decide_eq_true c) (by omega), fun _ => ⟨bk, rfl, bk, rfl, fun c => ?_, fun c => ?_⟩⟩
        · subst c
          have sl3 : Txt.slice (tx l) (some (j2 : Int)) (some ((j2 : Int) + 1)) = tx ((l.drop j2).take 1) := slice_lo (n := 1) lj
          refine ⟨_, rfl, _, _, rfl, rfl, _, rfl, _, rfl, by rw [tl, e16]; omega, ?_⟩
          rw [sl3, clL_tx, ej]
          refine neT ?_
          have e1 : (j : Int) + (if true = true then 1 else 0) = ((j + 1 : Nat) : Int) := by simp
          rw [e1]
          refine go j2 (j + 1) (!decide (r.take 1 = clL)) _ (fun _ _ => True) (by omega) lj ?_
          rw [mach_t, if_neg nj, ek, ej]
          rfl
        · have eb : bk = false := by simpa using c
          subst eb
          have e1 : (j : Int) + (if false = true then 1 else 0) = ((j : Nat) : Int) := by simp
          rw [e1]
          refine go j2 j false _ (fun _ _ => True) (by omega) lj ?_
          rw [mach_t, if_neg nj, ek, ej]
          rfl
    · have eb : b = false := by simpa using cb
      subst eb
      rw [mach_f, if_neg nj] at q
      refine ⟨fun c0 => ?_, fun c0 => ?_⟩
      · have j0 : j = 0 := by omega
        rw [if_pos j0] at q
        refine ⟨_, rfl, by rw [tl]; omega, ?_⟩
        have : decide ((i : Int) = ((tx l).length : Int)) = decide (l.drop i = []) := by
          rw [decide_eq_decide, tl, ← List.length_eq_zero_iff, ldr]
          omega
        rw [this]
        exact q
      · have j0 : ¬ j = 0 := by omega
        rw [if_neg j0] at q
        refine ⟨_, rfl, by rw [tl, e16]; omega, ?_⟩
        rw [sl2, cmL_tx]
        refine eqT ⟨_, rfl, fun c1 => ?_, fun c1 => ⟨_, rfl, by rw [tl, e16]; omega, ?_⟩⟩
        · have c1' := of_decide_eq_true c1
          have l2 := take_short c1' rfl
          have e2 : (i : Int) + 2 = ((i + 2 : Nat) : Int) := by omega
          rw [e2]
          refine go (i + 2) j true _ (fun _ _ => True) (by omega) (by omega) ?_
          rw [mach_f, if_neg nj, if_neg j0, if_pos c1', List.drop_drop]
        · have c1' : ¬ (l.drop i).take 2 = cmL := fun z => c1 (decide_eq_true z)
          rw [if_neg c1'] at q
          rw [sl1, clL_tx]
          refine eqT ⟨_, rfl, fun c2 => ?_, fun c2 => ?_⟩
          · have c2' := of_decide_eq_true c2
            have l2 := take_short c2' rfl
            have e2 : (i : Int) + 1 = ((i + 1 : Nat) : Int) := by omega
            have e3 : (j : Int) - 1 = ((j - 1 : Nat) : Int) := by omega
            rw [e2, e3]
            refine go (i + 1) (j - 1) false _ (fun _ _ => True) (by omega) (by omega) ?_
            rw [mach_f, if_neg nj, if_neg j0, if_neg c1', if_pos c2', List.drop_drop]
          · rw [if_neg (fun z => c2 (decide_eq_true z))] at q
            exact q
  · have nj : 40 < j := by omega
    cases b with
    | true => rw [mach_t, if_pos nj] at q; exact q
    | false => rw [mach_f, if_pos nj] at q; exact q

def wt (us : List Str) : Nat := (us.map fun u => u.length + 2).sum
theorem wt_app (us vs : List Str) : wt (us ++ vs) = wt us + wt vs := by simp [wt]
theorem wt_cut (us : List Str) (n : Nat) : wt (us.take n) + wt (us.drop n) = wt us := by rw [← wt_app, List.take_append_drop]
def gluS (us : List Str) : Str := Builtin.Str.glued (tx cmL) us
theorem gluS_tx (ps : List (List Nat)) : gluS (ps.map tx) = tx ((ps.take 1).flatten ++ (ps.drop 1).flatMap fun p => cmL ++ p) := by
  apply str_ext
  cases ps with
  | nil => simp [gluS, Builtin.Str.glued, Str.empty, tx]
  | cons p ps =>
    show (((ps.map tx).foldl (fun acc q => acc ++ (tx cmL).cps ++ q.cps) (tx p).cps)).toList = _
    rw [glued_fold, tx_list, tx_list, tx_list]
    simp [List.flatMap_map, tx_list]
theorem gluS_ok {us : List Str} (h : ∀ u ∈ us, Asc u) : Sm (wt us) (gluS us) ∧ us.toArray.foldl (· + ·.length + (tx cmL).length) 0 ≤ wt us := by
  have c2 : cmL.length = 2 := rfl
  obtain ⟨ps, rfl⟩ : ∃ ps : List (List Nat), us = ps.map tx := ⟨us.map fun y => y.cps.toList, by rw [List.map_map]; exact ((List.map_congr_left fun y _ => tx_cps y).trans (List.map_id _)).symm⟩
  have ew : wt (ps.map tx) = (ps.map fun p => p.length + 2).sum := by
    unfold wt
    rw [List.map_map]
    congr 1
  have fl : ∀ qs : List (List Nat), (qs.flatMap fun p => cmL ++ p).length = (qs.map fun p => p.length + 2).sum := fun qs => by
    induction qs with
    | nil => rfl
    | cons q qs ih =>
      rw [List.flatMap_cons, List.length_append, List.length_append, ih, List.map_cons, List.sum_cons, c2]
      omega
  have ha : ∀ p ∈ ps, ∀ x ∈ p, x < 128 := fun p hp => asc_tx.mp (h _ (List.mem_map.mpr ⟨p, hp, rfl⟩))
  have am : ∀ x ∈ cmL, x < 128 := by decide
  refine ⟨?_, ?_⟩
  · rw [gluS_tx, ew]
    refine ⟨?_, asc_tx.mpr fun x hx => ?_⟩
    · rw [tx_len, List.length_append, fl]
      cases ps with
      | nil => simp
      | cons p ps => simp <;> omega
    · rcases List.mem_append.mp hx with k | k
      · obtain ⟨p, hp, k⟩ := List.mem_flatten.mp k
        exact ha p (List.mem_of_mem_take hp) x k
      · obtain ⟨p, hp, k⟩ := List.mem_flatMap.mp k
        rcases List.mem_append.mp k with k | k
        · exact am x k
        · exact ha p (List.mem_of_mem_drop hp) x k
  · rw [List.foldl_toArray]
    have key : ∀ (ys : List Str) (k : Nat), ys.foldl (· + ·.length + (tx cmL).length) k = k + wt ys := fun ys => by
      induction ys with
      | nil => intro k; rfl
      | cons y ys ih =>
        intro k
        rw [List.foldl_cons, ih]
        have e : (tx cmL).length = 2 := by rw [tx_len]; rfl
        show k + y.length + (tx cmL).length + wt ys = k + ((y.length + 2) + wt ys)
        omega
    rw [key]
    omega
theorem cutS_lo (us : List Str) (n : Nat) (h : n ≤ us.length) : cutS us none (some (n : Int)) = us.take n := by
  unfold cutS
  rw [HT.sIx_none, HT.sIx_nat, Nat.min_eq_left h]
  simp
theorem cutS_hi (us : List Str) (n : Nat) (h : n ≤ us.length) : cutS us (some (n : Int)) none = us.drop n := by
  unfold cutS
  rw [HT.sIx_none, HT.sIx_nat, Nat.min_eq_left h]
  exact List.take_of_length_le (by rw [List.length_drop]; omega)
def sp_good (K : PySem.W.Frag) : Sp := fun vs H Q _ => ∃ (a : Addr) (ns : List Int), vs = [.ref a] ∧ SqL K H a (ns.map V.int) ∧ ns.length ≤ 60 ∧ ∀ (z : Str) (H' : Hp), Same H H' → Sm 40000 z → Q (.str z) H'
theorem h_law_good (T : TF K mg "_law_good" s_law_good) (m_len : mg "len" = none) (m_min : mg "min" = none) (m_str : mg "str" = none) : Has P w K mg base 1 "_law_good" ["cells"] (sp_good K) := by
  refine T.has sc_law_good (fun _ _ _ _ _ _ us hl => match us, hl with | [_], _ => rfl) (fun vs H Q E h => ?_) (fun f cdv A outer s H vs Q E hr h => ?_)
  · obtain ⟨a, ns, rfl, _⟩ := h
    rfl
  obtain ⟨a, ns, rfl, hS, ln, q⟩ := h
  refine ⟨_, (pss_cons (ps_set (i := 1) sc_law_good.nd rfl (Or.inl rfl) (pe_lst pa_nil)) (pss_cons (ps_for PassesOwn.never rfl (pi_list (pv 0)) (pg_name (i := 2) sc_law_good.nd rfl (Or.inl rfl)) (pss_cons (ps_set (i := 3) sc_law_good.nd rfl (Or.inl rfl) (pe_callB (call_min2 rfl) rfl m_min (by decide +kernel) (pa_cons (pe_op op_mod (pe_op op_fdivA (pv 2) pe_int) pe_int) (pa_cons (pe_callB call_len_seq rfl m_len PySem.boot_len (pa_cons (pv 1) pa_nil)) pa_nil)))) (pss_cons (ps_set (i := 4) sc_law_good.nd rfl (Or.inl rfl) (pe_op op_sub (pe_callB call_len_seq rfl m_len PySem.boot_len (pa_cons (pv 1) pa_nil)) (pv 3))) (pss_cons (ps_set (i := 5) sc_law_good.nd rfl (Or.inl rfl) (pe_callTy call_str_int rfl m_str (by decide +kernel) (pa_cons (pe_op op_mod (pe_op op_fdivA (pv 2) pe_int) (pe_ix ix_list (pe_lst (pa_cons pe_int (pa_cons (pe_op op_pow pe_int pe_int) pa_nil))) (pe_op op_mod (pe_op op_fdivA (pv 2) pe_int) pe_int) (fun _ _ => rfl))) pa_nil))) (pss_one (ps_if (pt_cmpR op_eq (pe_op op_mod (pv 2) pe_int) pe_int (nomark _)) (pss_one (ps_expr (pe_bm PySem.F.plainAttrs_list PySem.F.slot_list_append PySem.F.type_list_append mt_append (pv 1) (pa_cons (pe_op op_add_str pe_str (pv 5)) pa_nil)))) (pss_one (ps_set (i := 1) sc_law_good.nd rfl (Or.inl rfl) (pe_op op_catS (pe_slice sl_list (pv 1) po_none (po_some (pv 4))) (pe_lst (pa_cons (pe_op op_add_str (pe_op op_add_str (pe_op op_add_str (pe_op op_add_str pe_str (pv 5)) pe_str) (pe_bm PySem.F.plainAttrs_str PySem.F.slot_str_join PySem.F.type_str_join mt_join pe_str (pa_cons (pe_slice sl_list (pv 1) (po_some (pv 4)) po_none) pa_nil))) pe_str) pa_nil))))))))))) (pss_one (ps_ret (pe_op op_add_str (pe_op op_add_str (pe_op op_add_str (pe_op op_add_str pe_str (pe_callTy call_str_int rfl m_str (by decide +kernel) (pa_cons (pe_callB call_len_seq rfl m_len PySem.boot_len (pa_cons (pv 1) pa_nil)) pa_nil))) pe_str) (pe_bm PySem.F.plainAttrs_str PySem.F.slot_str_join PySem.F.type_str_join mt_join pe_str (pa_cons (pv 1) pa_nil))) pe_str))))), ?_⟩
  walk_at "wp"
  intro D nD
  have gD := same_new nD (.lst [])
  have hD := upd_same (H := H) (a := D) (o := .lst [])
  generalize upd H D (.lst []) = H1 at gD hD ⊢
  obtain ⟨W, hW⟩ : ∃ W : Nat → St → Hp → Prop, W = fun i σ H' => ∃ (o1 o2 o3 o4 : Option V) (F : Addr) (us : List Str), σ = [some (.ref a), some (.ref F), o1, o2, o3, o4] ∧ Same H H' ∧ H F = none ∧ H' F = some (.lst (us.map V.str)) ∧ us.length ≤ i ∧ wt us ≤ 110 * i ∧ ∀ u ∈ us, Asc u := ⟨_, rfl⟩
  refine ⟨⟨_, gD.seq hS⟩, forW_list (xs := ns.map V.int) W ?_ (fun i σ H' _ z => ?_) (fun i x σ H' hx z => ?_) (fun σ H' z => ?_)⟩
  · rw [hW]
    exact ⟨none, none, none, none, D, [], rfl, gD, nD, hD, Nat.le_refl _, Nat.zero_le _, fun u h => nomatch h⟩
  · rw [hW] at z
    obtain ⟨_, _, _, _, _, _, _, g, _⟩ := z
    exact g.seq hS
  · rw [hW] at z
    obtain ⟨o1, o2, o3, o4, F, us, rfl, g, nF, hF, lu, wu, au⟩ := z
    rw [List.getElem?_map] at hx
    obtain ⟨c, hc, rfl⟩ := Option.map_eq_some_iff.mp hx
    have hi := (List.getElem?_eq_some_iff.mp hc).1
    have dv : ∀ k : Int, 2 ≤ k → k ≤ 1000 → CDivA c k := fun k h1 h2 => divA 10 (by omega) (by omega) (by decide)
    walk_at "wp"
    have b4 := modB (c / 2) (show (0 : Int) < 4 by decide)
    have b2 := modB (c / 8) (show (0 : Int) < 2 by decide)
    have v := getD_all (Pz := fun z => 1 ≤ z ∧ z ≤ 10 ^ 60) (zs := [61, 10 ^ Int.toNat 40]) (i := (c / 8 % 2).toNat) (by
      intro z hz
      simp only [List.mem_cons, List.not_mem_nil, or_false] at hz
      rcases hz with rfl | rfl <;> decide) (by simp; omega)
    refine ⟨dv 2 (by decide) (by decide), by decide, F, _, rfl, .inl (SqL.of hF), _, _, rfl, F, _, rfl, .inl (SqL.of hF), dv 16 (by decide) (by decide), ⟨by decide, by decide, by decide⟩, fun p np => ⟨dv 8 (by decide) (by decide), by decide, rIxL_mk (SqL.of upd_same) (atI_getD (zs := [61, 10 ^ Int.toNat 40]) b2.1 (by simp; omega)) ?_⟩⟩
    have gp := same_new np (.lst [V.int 61, V.int (10 ^ Int.toNat 40)])
    generalize upd H' p (.lst [V.int 61, V.int (10 ^ Int.toNat 40)]) = H2 at gp ⊢
    generalize ([61, 10 ^ Int.toNat 40] : List Int).getD (c / 8 % 2).toNat 0 = k at v
    have kb := modB (c / 16) (show 0 < k by omega)
    have G2 := g.trans gp
    have hF2 := gp _ _ hF
    have dk : DgOk (c / 16 % k) := dgOk kb.1 (Int.lt_of_lt_of_le (Int.lt_of_lt_of_le kb.2 v.2) (by decide))
    refine ⟨_, _, rfl, rfl, by show 0 < k; omega, _, rfl, dk.sz, by decide, fun _ => ⟨.inl ⟨rfl, _, SqL.of hF2⟩, ?_⟩, fun _ => ?_⟩
    all_goals
      have sd := sm_dg dk
      generalize Str.ofString (toString (c / 16 % k)) = num at sd
    · have s1 : Sm 3 (Str.ofString "in ") := ⟨by decide +kernel, by unfold Asc; decide +kernel⟩
      have s2 := s1.app sd
      have l1 := s1.1
      have l2 := sd.1
      refine ⟨_, _, rfl, rfl, by omega, F, _, _, rfl, rfl, hF2, by rw [List.length_map]; show _ < sizeLine; rw [sizeLine_eq]; omega, ?_⟩
      rw [hW]
      refine ⟨_, _, _, _, F, us ++ [Str.ofString "in " ++ num], rfl, G2.write nF _, nF, by rw [upd_same, List.map_append]; rfl, by rw [List.length_append, List.length_singleton]; omega, ?_, fun u hu => ?_⟩
      · rw [wt_app]
        have l3 := s2.1
        have : wt [Str.ofString "in " ++ num] = (Str.ofString "in " ++ num).length + 2 := by simp [wt]
        omega
      · rcases List.mem_append.mp hu with k1 | k1
        · exact au u k1
        · rw [List.mem_singleton.mp k1]
          exact s2.2
    · have s1 : Sm 3 (Str.ofString "by ") := ⟨by decide +kernel, by unfold Asc; decide +kernel⟩
      have s3 : Sm 2 (Str.ofString " (") := ⟨by decide +kernel, by unfold Asc; decide +kernel⟩
      have s5 : Sm 1 (Str.ofString ")") := ⟨by decide +kernel, by unfold Asc; decide +kernel⟩
      obtain ⟨at_, ea, la⟩ : ∃ at_ : Nat, ((List.map V.str us).length : Int) - (if ((List.map V.str us).length : Int) < c / 2 % 4 then ((List.map V.str us).length : Int) else c / 2 % 4) = (at_ : Int) ∧ at_ ≤ us.length := by
        rw [List.length_map]
        refine ⟨((us.length : Int) - (if (us.length : Int) < c / 2 % 4 then (us.length : Int) else c / 2 % 4)).toNat, ?_, ?_⟩
        · split <;> omega
        · split <;> omega
      rw [ea]
      have wc := wt_cut us at_
      have ga := gluS_ok (us := us.drop at_) fun u hu => au u (List.mem_of_mem_drop hu)
      have lg := ga.1.1
      refine ⟨F, _, rfl, SqL.of hF2, fun p1 n1 => ?_⟩
      rw [cutV_strs, cutS_lo us at_ la]
      have g3 := same_new n1 (.lst ((us.take at_).map V.str))
      have h3 := upd_same (H := H2) (a := p1) (o := .lst ((us.take at_).map V.str))
      generalize upd H2 p1 (.lst ((us.take at_).map V.str)) = H3 at g3 h3 ⊢
      have hF3 := g3 _ _ hF2
      have l1 := s1.1
      have l2 := sd.1
      have l3 := s3.1
      have l5 := s5.1
      refine ⟨_, _, rfl, rfl, by omega, _, _, rfl, rfl, by rw [app_len]; omega, rfl, F, _, rfl, SqL.of hF3, fun p2 n2 => ?_⟩
      rw [cutV_strs, cutS_hi us at_ la]
      have g4 := same_new n2 (.lst ((us.drop at_).map V.str))
      have h4 := upd_same (H := H3) (a := p2) (o := .lst ((us.drop at_).map V.str))
      have h34 := g4 _ _ h3
      generalize upd H3 p2 (.lst ((us.drop at_).map V.str)) = H4 at g4 h4 h34 ⊢
      rw [cmL_tx]
      have ga' := ga.2
      refine ⟨_, p2, _, rfl, rfl, SqL.of h4, by omega, by show (gluS (us.drop at_)).length ≤ _; omega, ?_⟩
      show ∃ i j, _ ∧ V.str (gluS (us.drop at_)) = _ ∧ _
      have s4 := ((((s1.app sd).app s3).app ga.1).app s5)
      have e4 := s4.1
      refine ⟨_, _, rfl, rfl, by rw [app_len, app_len]; omega, _, _, rfl, rfl, by rw [app_len, app_len, app_len]; omega, fun p3 n3 => ?_⟩
      generalize Str.ofString "by " ++ num ++ Str.ofString " (" ++ gluS (us.drop at_) ++ Str.ofString ")" = one at s4 e4
      have g5 := same_new n3 (.lst [V.str one])
      refine ⟨p1, p3, _, _, rfl, rfl, SqL.of (g5 _ _ h34), SqL.of upd_same, by rw [List.length_map, List.length_take, List.length_singleton, sizeLine_eq]; omega, fun p4 n4 => ?_⟩
      rw [hW]
      have G5 := G2.trans (g3.trans (g4.trans g5))
      refine ⟨_, _, _, _, p4, us.take at_ ++ [one], rfl, G5.trans (same_new n4 _), G5.free n4, by rw [upd_same, List.map_append]; rfl, by rw [List.length_append, List.length_take, List.length_singleton]; omega, ?_, fun u hu => ?_⟩
      · rw [wt_app]
        have : wt [one] = one.length + 2 := by simp [wt]
        omega
      · rcases List.mem_append.mp hu with k1 | k1
        · exact au u (List.mem_of_mem_take k1)
        · rw [List.mem_singleton.mp k1]
          exact s4.2
  · rw [hW] at z
    obtain ⟨o1, o2, o3, o4, F, us, rfl, g, nF, hF, lu, wu, au⟩ := z
    rw [List.length_map] at lu wu
    walk_at "wp"
    have dk : DgOk ((us.map V.str).length : Int) := dgOk (Int.natCast_nonneg _) (by rw [List.length_map]; exact Int.lt_of_le_of_lt (show (us.length : Int) ≤ 1000 by omega) (by decide))
    have s1 : Sm 3 (Str.ofString "by ") := ⟨by decide +kernel, by unfold Asc; decide +kernel⟩
    have s3 : Sm 2 (Str.ofString " (") := ⟨by decide +kernel, by unfold Asc; decide +kernel⟩
    have s5 : Sm 1 (Str.ofString ")") := ⟨by decide +kernel, by unfold Asc; decide +kernel⟩
    have ga := gluS_ok au
    have lg := ga.1.1
    have ga' := ga.2
    refine ⟨F, _, rfl, .inl (SqL.of hF), _, rfl, dk.sz, ?_⟩
    have sd := sm_dg dk
    generalize Str.ofString (toString ((us.map V.str).length : Int)) = num at sd
    have l1 := s1.1
    have l2 := sd.1
    have l3 := s3.1
    have l5 := s5.1
    have s4 := ((((s1.app sd).app s3).app ga.1).app s5)
    refine ⟨_, _, rfl, rfl, by omega, _, _, rfl, rfl, by rw [app_len]; omega, rfl, ?_⟩
    rw [cmL_tx]
    refine ⟨_, F, _, rfl, rfl, SqL.of hF, by omega, by show (gluS us).length ≤ _; omega, ?_⟩
    show ∃ i j, _ ∧ V.str (gluS us) = _ ∧ _
    exact ⟨_, _, rfl, rfl, by rw [app_len, app_len]; omega, _, _, rfl, rfl, by rw [app_len, app_len, app_len]; omega, q _ H' g (s4.mono (by omega))⟩
def sp_deep : Sp := fun vs H Q _ => ∃ c : Int, vs = [.int c] ∧ ∀ (z : Str) (H' : Hp), Same H H' → Sm 40000 z → Q (.str z) H'
theorem h_law_deep (T : TF K mg "_law_deep" s_law_deep) : Has P w K mg base 1 "_law_deep" ["cell"] sp_deep := by
  refine T.has sc_law_deep (fun _ _ _ _ _ _ us hl => match us, hl with | [_], _ => rfl) (fun vs H Q E h => ?_) (fun f cdv A outer s H vs Q E hr h => ?_)
  · obtain ⟨c, rfl, _⟩ := h
    rfl
  obtain ⟨c, rfl, q⟩ := h
  refine ⟨_, (pss_cons (ps_cut (ps_set (i := 1) sc_law_deep.nd rfl (Or.inl rfl) (pe_op op_add_str pe_str (pe_op op_mul_strW pe_str (pe_ix ix_list (pe_lst (pa_cons pe_int (pa_cons pe_int (pa_cons pe_int (pa_cons pe_int pa_nil))))) (pe_op op_mod (pe_op op_fdivA (pv 0) pe_int) pe_int) (fun _ _ => rfl)))))) (pss_cons (ps_cut (ps_if (pt_cmpR op_eq (pe_op op_mod (pv 0) pe_int) pe_int (nomark _)) (pss_one (ps_set (i := 1) sc_law_deep.nd rfl (Or.inl rfl) (pe_op op_add_str (pe_op op_add_str pe_str (pe_op op_mul_strW pe_str (pe_ix ix_list (pe_lst (pa_cons pe_int (pa_cons pe_int (pa_cons pe_int (pa_cons pe_int pa_nil))))) (pe_op op_mod (pe_op op_fdivA (pv 0) pe_int) pe_int) (fun _ _ => rfl)))) pe_str))) pss_nil)) (pss_cons (ps_set (i := 2) sc_law_deep.nd rfl (Or.inl rfl) (pe_op op_add pe_int (pe_op op_mod (pe_op op_fdivA (pv 0) pe_int) pe_int))) (pss_cons (ps_cut (ps_if (pt_cmpR op_eq (pe_op op_mod (pe_op op_fdivA (pv 0) pe_int) pe_int) pe_int (nomark _)) (pss_one (ps_set (i := 2) sc_law_deep.nd rfl (Or.inl rfl) (pe_op op_add pe_int (pe_op op_mod (pe_op op_fdivA (pv 0) pe_int) pe_int)))) pss_nil)) (pss_cons (ps_cut (ps_if (pt_cmpR op_eq (pe_op op_mod (pe_op op_fdivA (pv 0) pe_int) pe_int) pe_int (nomark _)) (pss_one (ps_set (i := 2) sc_law_deep.nd rfl (Or.inl rfl) (pe_op op_mod (pe_op op_fdivA (pv 0) pe_int) pe_int))) pss_nil)) (pss_one (ps_ret (pe_op op_add_str (pe_op op_add_str (pe_op op_mul_strW pe_str (pv 2)) (pv 1)) (pe_op op_mul_strW pe_str (pv 2)))))))))), ?_⟩
  walk_at "wp"
  obtain ⟨M, hM⟩ : ∃ M : St → Hp → Prop, M = fun σ H' => ∃ (z : Str), σ = [some (.int c), some (.str z), none] ∧ Same H H' ∧ Sm 200 z := ⟨_, rfl⟩
  have b4 := modB (c / 3) (show (0 : Int) < 4 by decide)
  have v := getD_all (Pz := fun z => 0 ≤ z ∧ z ≤ 101) (zs := [1, 2, 100, 101]) (i := (c / 3 % 4).toNat) (by
    intro z hz
    simp only [List.mem_cons, List.not_mem_nil, or_false] at hz
    rcases hz with rfl | rfl | rfl | rfl <;> decide) (by simp; omega)
  have dv : ∀ k : Int, 2 ≤ k → k ≤ 1000 → CDivA c k := fun k h1 h2 => divA 10 (by omega) (by omega) (by decide)
  have ml : ∀ (y : Str) (m n : Nat) (k : Int), Sm m y → 0 ≤ k → k ≤ n → Sm (m * n) (Txt.mul y k) := fun y m n k hy k0 kn => by
    have e := mul_len y k k0
    have h1 : (y.length : Int) * k ≤ (m : Int) * n := Int.mul_le_mul (by have := hy.1; omega) kn k0 (Int.natCast_nonneg _)
    refine ⟨by rw [← e] at h1; exact_mod_cast h1, asc_iff.mpr fun x hx => asc_iff.mp hy.2 x (mul_cps y k x hx)⟩
  refine ⟨M, ?_, fun σ H1 h => ?_⟩
  · walk_at "wp"
    refine fun p np => ⟨dv 3 (by decide) (by decide), by decide, rIxL_mk (SqL.of upd_same) (atI_getD (zs := [1, 2, 100, 101]) b4.1 (by simp; omega)) ?_⟩
    generalize ([1, 2, 100, 101] : List Int).getD (c / 3 % 4).toNat 0 = n at v
    have s1 : Sm 1 (Str.ofString "1") := ⟨by decide +kernel, by unfold Asc; decide +kernel⟩
    have s2 : Sm 3 (Str.ofString "in ") := ⟨by decide +kernel, by unfold Asc; decide +kernel⟩
    have sm := ml _ 1 101 n s1 v.1 v.2
    have l1 := s1.1
    have l2 := s2.1
    have l3 := sm.1
    refine ⟨_, n, rfl, rfl, by omega, v.1, by omega, _, _, rfl, rfl, by omega, ?_⟩
    rw [hM]
    exact ⟨_, rfl, same_new np _, (s2.app sm).mono (by decide)⟩
  rw [hM] at h
  obtain ⟨z, rfl, g, hz⟩ := h
  walk_at "wp"
  refine ⟨M, ?_, fun σ H1 h => ?_⟩
  · walk_at "wp"
    refine ⟨by decide, fun _ p np => ⟨dv 3 (by decide) (by decide), by decide, rIxL_mk (SqL.of upd_same) (atI_getD (zs := [1, 2, 100, 101]) b4.1 (by simp; omega)) ?_⟩, fun _ => by rw [hM]; exact ⟨z, rfl, g, hz⟩⟩
    generalize ([1, 2, 100, 101] : List Int).getD (c / 3 % 4).toNat 0 = n at v
    have s1 : Sm 1 (Str.ofString "2") := ⟨by decide +kernel, by unfold Asc; decide +kernel⟩
    have s2 : Sm 3 (Str.ofString "by ") := ⟨by decide +kernel, by unfold Asc; decide +kernel⟩
    have s3 : Sm 3 (Str.ofString " ()") := ⟨by decide +kernel, by unfold Asc; decide +kernel⟩
    have sm := ml _ 1 101 n s1 v.1 v.2
    have l1 := s1.1
    have l2 := s2.1
    have l3 := sm.1
    have l4 := s3.1
    refine ⟨_, n, rfl, rfl, by omega, v.1, by omega, _, _, rfl, rfl, by omega, _, _, rfl, rfl, by rw [app_len]; omega, ?_⟩
    rw [hM]
    exact ⟨_, rfl, g.trans (same_new np _), ((s2.app sm).app s3).mono (by decide)⟩
  rw [hM] at h
  clear g hz
  obtain ⟨z, rfl, g, hz⟩ := h
  walk_at "wp"
  obtain ⟨R, hR⟩ : ∃ R : St → Hp → Prop, R = fun σ H' => ∃ n : Int, σ = [some (.int c), some (.str z), some (.int n)] ∧ H' = H1 ∧ 0 ≤ n ∧ n ≤ 4040 := ⟨_, rfl⟩
  have b10 := modB (c / 12) (show (0 : Int) < 10 by decide)
  refine ⟨dv 12 (by decide) (by decide), by decide, R, ?_, fun σ H2 h => ?_⟩
  · walk_at "wp"
    have b40 := modB (c / 480) (show (0 : Int) < 4000 by decide)
    refine ⟨dv 120 (by decide) (by decide), by decide, fun _ => ⟨dv 480 (by decide) (by decide), by decide, ?_⟩, fun _ => ?_⟩
    · rw [hR]; exact ⟨_, rfl, rfl, by omega, by omega⟩
    · rw [hR]; exact ⟨_, rfl, rfl, by omega, by omega⟩
  rw [hR] at h
  obtain ⟨n, rfl, rfl, n0, n1⟩ := h
  walk_at "wp"
  refine ⟨R, ?_, fun σ H2 h => ?_⟩
  · walk_at "wp"
    have b40 := modB (c / 480) (show (0 : Int) < 40 by decide)
    refine ⟨dv 120 (by decide) (by decide), by decide, fun _ => ⟨dv 480 (by decide) (by decide), by decide, ?_⟩, fun _ => ?_⟩
    · rw [hR]; exact ⟨_, rfl, rfl, by omega, by omega⟩
    · rw [hR]; exact ⟨_, rfl, rfl, by omega, by omega⟩
  rw [hR] at h
  clear n0 n1
  obtain ⟨n, rfl, rfl, n0, n1⟩ := h
  walk_at "wp"
  have s1 : Sm 6 (Str.ofString "by 1 (") := ⟨by decide +kernel, by unfold Asc; decide +kernel⟩
  have s2 : Sm 1 (Str.ofString ")") := ⟨by decide +kernel, by unfold Asc; decide +kernel⟩
  have m1 := ml _ 6 4040 n s1 n0 n1
  have m2 := ml _ 1 4040 n s2 n0 n1
  have l1 := s1.1
  have l2 := s2.1
  have l3 := m1.1
  have l4 := m2.1
  have l5 := hz.1
  exact ⟨_, n, rfl, rfl, by omega, n0, by omega, _, _, rfl, rfl, by omega, _, n, rfl, rfl, by omega, n0, by omega, _, _, rfl, rfl, by rw [app_len]; omega, q _ _ g (((m1.app hz).app m2).mono (by decide))⟩
def A74 : List Str := [Str.ofString "", Str.ofString "in", Str.ofString "in ", Str.ofString "in 03", Str.ofString "in  3", Str.ofString "In 3", Str.ofString " in 3", Str.ofString "in 3 ", Str.ofString "by 2", Str.ofString "by 2 (", Str.ofString "by 2()"]
def B74 : List Str := [Str.ofString "by 2 (in 1 , in 2)", Str.ofString "by 2 (in 1,in 2)", Str.ofString "by 2 (in 1, )", Str.ofString "by 2 (, in 1)", Str.ofString "by 2 (in 1))"]
def C74 : List Str := [Str.ofString "by  (in 1)", Str.ofString "by 2 ()", Str.ofString "in 0"]
def D74 : List Str := [Str.ofString "by 2 (in 1; in 2)", Str.ofString "in 1, in 2", Str.ofString "(in 1)", Str.ofString "by 02 (in 1)", Str.ofString "by 2 (in 1 in 2)", Str.ofString "in +1", Str.ofString "in -1"]
theorem h_law_odd (T : TF K mg "_law_odd" s_law_odd) : Has P w K mg base 1 "_law_odd" ["cell"] sp_deep := by
  refine T.has sc_law_odd (fun _ _ _ _ _ _ us hl => match us, hl with | [_], _ => rfl) (fun vs H Q E h => ?_) (fun f cdv A outer s H vs Q E hr h => ?_)
  · obtain ⟨c, rfl, _⟩ := h
    rfl
  obtain ⟨c, rfl, q⟩ := h
  refine ⟨_, (pss_cons (ps_set (i := 1) sc_law_odd.nd rfl (Or.inl rfl) (pe_lst (pa_cons pe_str (pa_cons pe_str (pa_cons pe_str (pa_cons pe_str (pa_cons pe_str (pa_cons pe_str (pa_cons pe_str (pa_cons pe_str (pa_cons pe_str (pa_cons pe_str (pa_cons pe_str pa_nil))))))))))))) (pss_cons (ps_set (i := 1) sc_law_odd.nd rfl (Or.inl rfl) (pe_op op_cat (pv 1) (pe_lst (pa_cons pe_str (pa_cons pe_str (pa_cons pe_str (pa_cons pe_str (pa_cons pe_str pa_nil)))))))) (pss_cons (ps_set (i := 1) sc_law_odd.nd rfl (Or.inl rfl) (pe_op op_cat (pv 1) (pe_lst (pa_cons pe_str (pa_cons pe_str (pa_cons pe_str pa_nil)))))) (pss_cons (ps_set (i := 1) sc_law_odd.nd rfl (Or.inl rfl) (pe_op op_cat (pv 1) (pe_lst (pa_cons pe_str (pa_cons pe_str (pa_cons pe_str (pa_cons pe_str (pa_cons pe_str (pa_cons pe_str (pa_cons pe_str pa_nil)))))))))) (pss_one (ps_ret (pe_ix ix_list (pv 1) (pe_op op_mod (pv 0) pe_int) (fun _ _ => rfl)))))))), ?_⟩
  walk_at "wp"
  intro p np p1 np1
  have g1 := same_new np (.lst (A74.map V.str))
  have g2 := same_new np1 (.lst (B74.map V.str))
  refine ⟨p, p1, A74.map V.str, B74.map V.str, rfl, rfl, g2 _ _ upd_same, upd_same, by decide +kernel, fun p2 np2 => ?_⟩
  have g3 := same_new np2 (.lst (A74.map V.str ++ B74.map V.str))
  intro p3 np3
  have g4 := same_new np3 (.lst (C74.map V.str))
  refine ⟨p2, p3, (A74 ++ B74).map V.str, C74.map V.str, rfl, rfl, g4 _ _ upd_same, upd_same, by decide +kernel, fun p4 np4 => ?_⟩
  have g5 := same_new np4 (.lst ((A74 ++ B74).map V.str ++ C74.map V.str))
  intro p5 np5
  have g6 := same_new np5 (.lst (D74.map V.str))
  refine ⟨p4, p5, (A74 ++ B74 ++ C74).map V.str, D74.map V.str, rfl, rfl, g6 _ _ upd_same, upd_same, by decide +kernel, fun p6 np6 => ?_⟩
  have g7 := same_new np6 (.lst ((A74 ++ B74 ++ C74).map V.str ++ D74.map V.str))
  have cb := modB c (show (0 : Int) < 26 by decide)
  exact ⟨by decide, ix_strs (ys := A74 ++ B74 ++ C74 ++ D74) (n := 40000) upd_same cb.1 (by show c % 26 < 26; omega) (sm_all (by decide +kernel)) fun z hz => q z _ (g1.trans (g2.trans (g3.trans (g4.trans (g5.trans (g6.trans g7)))))) hz⟩
def sp_text74 (K : PySem.W.Frag) : Sp := fun vs H Q _ => ∃ (a : Addr) (ns : List Int), vs = [.ref a] ∧ SqL K H a (ns.map V.int) ∧ ∀ (z : Str) (H' : Hp), Same H H' → Sm 80001 z → Q (.str z) H'
theorem h_law_text (T : TF K mg "_law_text" s_law_text) (m_len : mg "len" = none) (G_law_cell_at : Has P w K mg base 1 "_law_cell_at" ["script", "k"] (sp_cell_at K)) (G_law_good : Has P w K mg base 1 "_law_good" ["cells"] (sp_good K)) (G_law_deep : Has P w K mg base 1 "_law_deep" ["cell"] sp_deep) (G_law_odd : Has P w K mg base 1 "_law_odd" ["cell"] sp_deep) : Has P w K mg base 2 "_law_text" ["script"] (sp_text74 K) := by
  refine T.has sc_law_text (fun _ _ _ _ _ _ us hl => match us, hl with | [_], _ => rfl) (fun vs H Q E h => ?_) (fun f cdv A outer s H vs Q E hr h => ?_)
  · obtain ⟨a, ns, rfl, _⟩ := h
    rfl
  obtain ⟨a, ns, rfl, hS, q⟩ := h
  refine ⟨_, (pss_cons (ps_set (i := 1) sc_law_text.nd rfl (Or.inl rfl) (pe_def (G_law_cell_at.mono (by first | decide | omega)) hr (pa_cons (pv 0) (pa_cons pe_int pa_nil)))) (pss_cons (ps_set (i := 2) sc_law_text.nd rfl (Or.inl rfl) (pe_op op_mod (pe_def (G_law_cell_at.mono (by first | decide | omega)) hr (pa_cons (pv 0) (pa_cons pe_int pa_nil))) pe_int)) (pss_cons (ps_cut (ps_if (pt_cmpR op_eq (pv 2) pe_int (nomark _)) (pss_one (ps_ret (pe_def (G_law_odd.mono (by first | decide | omega)) hr (pa_cons (pv 1) pa_nil)))) pss_nil)) (pss_cons (ps_set (i := 3) sc_law_text.nd rfl (Or.inl rfl) (pe_def (G_law_good.mono (by first | decide | omega)) hr (pa_cons (pe_slice sl_list (pv 0) (po_some pe_int) (po_some pe_int)) pa_nil))) (pss_cons (ps_cut (ps_if (pt_cmpR op_eq (pv 2) pe_int (nomark _)) (pss_one (ps_set (i := 3) sc_law_text.nd rfl (Or.inl rfl) (pe_def (G_law_deep.mono (by first | decide | omega)) hr (pa_cons (pv 1) pa_nil)))) pss_nil)) (pss_cons (ps_set (i := 4) sc_law_text.nd rfl (Or.inl rfl) (pe_op op_mod (pe_def (G_law_cell_at.mono (by first | decide | omega)) hr (pa_cons (pv 0) (pa_cons pe_int pa_nil))) (pe_op op_add (pe_callB call_len_str rfl m_len PySem.boot_len (pa_cons (pv 3) pa_nil)) pe_int))) (pss_cons (ps_set (i := 5) sc_law_text.nd rfl (Or.inl rfl) (pe_ix ix_str pe_str (pe_op op_mod (pe_op op_fdivA (pv 1) pe_int) pe_int) (fun _ _ => rfl))) (pss_cons (ps_if (PW.pt (pw_or (pt_cmpR op_eq (pv 2) pe_int (nomark _)) (pw_or1 (pt_cmpR op_eq (pv 2) pe_int (nomark _))))) (pss_one (ps_ret (pe_op op_add_str (pe_op op_add_str (pe_slice sl_str (pv 3) po_none (po_some (pv 4))) (pv 5)) (pe_slice sl_str (pv 3) (po_some (pv 4)) po_none)))) pss_nil) (pss_cons (ps_if (pt_cmpR op_eq (pv 2) pe_int (nomark _)) (pss_one (ps_ret (pe_op op_add_str (pe_slice sl_str (pv 3) po_none (po_some (pv 4))) (pe_slice sl_str (pv 3) (po_some (pe_op op_add (pv 4) pe_int)) po_none)))) pss_nil) (pss_cons (ps_if (pt_cmpR op_eq (pv 2) pe_int (nomark _)) (pss_one (ps_ret (pe_op op_add_str (pe_op op_add_str (pe_slice sl_str (pv 3) po_none (po_some (pv 4))) (pv 5)) (pe_slice sl_str (pv 3) (po_some (pe_op op_add (pv 4) pe_int)) po_none)))) pss_nil) (pss_one (ps_ret (pv 3))))))))))))), ?_⟩
  walk_at "wp"
  refine ⟨a, ns, 1, rfl, hS, by decide, ?_⟩
  refine ⟨a, ns, 0, rfl, hS, by decide, ?_⟩
  generalize ns.getD (Int.toNat 1) 0 = cell
  walk_at "wp"
  refine ⟨by decide, ?_⟩
  generalize ns.getD (Int.toNat 0) 0 % 8 = way
  obtain ⟨M, hM⟩ : ∃ M : St → Hp → Prop, M = fun σ H' => σ = [some (.ref a), some (.int cell), some (.int way), none, none, none] ∧ H' = H := ⟨_, rfl⟩
  refine ⟨M, ?_, fun σ H1 h => ?_⟩
  · walk_at "wp"
    refine ⟨fun _ => ⟨cell, rfl, fun z H2 g2 hz => q z H2 g2 (hz.mono (by decide))⟩, fun _ => by rw [hM]; exact ⟨rfl, rfl⟩⟩
  rw [hM] at h
  obtain ⟨rfl, rfl⟩ := h
  walk_at "wp"
  refine ⟨a, _, rfl, hS, fun p np => ?_⟩
  rw [cutV_map]
  have g1 := same_new np (.lst ((cutI ns (some 4) (some 64)).map V.int))
  have l60 : (cutI ns (some 4) (some 64)).length ≤ 60 := by
    unfold cutI
    rw [List.length_take, show (4 : Int) = ((4 : Nat) : Int) from rfl, show (64 : Int) = ((64 : Nat) : Int) from rfl, HT.sIx_nat, HT.sIx_nat]
    omega
  refine ⟨p, _, rfl, SqL.of upd_same, l60, fun z H2 g2 hz => ?_⟩
  have G2 := g1.trans g2
  obtain ⟨R, hR⟩ : ∃ R : St → Hp → Prop, R = fun σ H' => ∃ z : Str, σ = [some (.ref a), some (.int cell), some (.int way), some (.str z), none, none] ∧ Same H1 H' ∧ Sm 40000 z := ⟨_, rfl⟩
  refine ⟨R, ?_, fun σ H3 h => ?_⟩
  · walk_at "wp"
    refine ⟨fun _ => ⟨cell, rfl, fun z3 H3 g3 hz3 => by rw [hR]; exact ⟨z3, rfl, G2.trans g3, hz3⟩⟩, fun _ => by rw [hR]; exact ⟨z, rfl, G2, hz⟩⟩
  rw [hR] at h
  clear hz G2 g2
  obtain ⟨z, rfl, g3, hz⟩ := h
  have zl := hz.1
  walk_at "wp"
  refine ⟨a, ns, 2, rfl, g3.seq hS, by decide, ?_⟩
  generalize ns.getD (Int.toNat 2) 0 = place
  walk_at "wp"
  refine ⟨z, rfl, by omega, ?_⟩
  have sb := modB (cell / 30) (show (0 : Int) < 20 by decide)
  obtain ⟨j, hj⟩ : ∃ j : Nat, cell / 30 % 20 = (j : Int) := ⟨_, (Int.toNat_of_nonneg sb.1).symm⟩
  rw [hj] at sb
  walk_at "wp"
  rw [hj]
  have sl : (Str.ofString "0123456789 ,()inbyx\n").cps.toList.length = 20 := by decide +kernel
  have sa : Asc (Str.ofString "0123456789 ,()inbyx\n") := by unfold Asc; decide +kernel
  have jl : j < (Str.ofString "0123456789 ,()inbyx\n").cps.toList.length := by omega
  have ec := List.getElem?_eq_getElem jl
  have cs := asc_iff.mp sa _ (List.getElem_mem jl)
  generalize (Str.ofString "0123456789 ,()inbyx\n").cps.toList[j] = ch at ec cs
  have hsm : Sm 1 (⟨#[ch]⟩ : Str) := ⟨Nat.le_refl 1, asc_iff.mpr fun c hc => by
    have : c = ch := by simpa using hc
    rw [this]
    exact cs⟩
  refine ⟨by omega, divA 10 (by decide) (by decide) (by decide), by decide, _, _, ch, rfl, rfl, by decide +kernel, atI_nat ec, ?_⟩
  generalize place % ((z.length : Int) + 1) = at2
  have c1 := hz.cut none (some at2)
  have c2 := hz.cut (some at2) none
  have c3 := hz.cut (some (at2 + 1)) none
  have c1l := c1.1
  have c2l := c2.1
  have c3l := c3.1
  have l1 := hsm.1
  have e16 : sizeLine = 16777216 := rfl
  refine ⟨fun _ => ?_, fun _ => ⟨fun _ => ?_, fun _ => ⟨fun _ => ?_, fun _ => ⟨fun _ => ?_, fun _ => q _ H3 g3 (hz.mono (by decide))⟩⟩⟩⟩
  · exact ⟨z, rfl, by rw [e16]; omega, _, _, rfl, rfl, by omega, z, rfl, by rw [e16]; omega, _, _, rfl, rfl, by rw [app_len]; omega, q _ H3 g3 (((c1.app hsm).app c2).mono (by decide))⟩
  · exact ⟨z, rfl, by rw [e16]; omega, _, _, rfl, rfl, by omega, z, rfl, by rw [e16]; omega, _, _, rfl, rfl, by rw [app_len]; omega, q _ H3 g3 (((c1.app hsm).app c2).mono (by decide))⟩
  · exact ⟨z, rfl, by rw [e16]; omega, z, rfl, by rw [e16]; omega, _, _, rfl, rfl, by omega, q _ H3 g3 ((c1.app c3).mono (by decide))⟩
  · exact ⟨z, rfl, by rw [e16]; omega, _, _, rfl, rfl, by omega, z, rfl, by rw [e16]; omega, _, _, rfl, rfl, by rw [app_len]; omega, q _ H3 g3 (((c1.app hsm).app c3).mono (by decide))⟩

def sp_otherC (C : Addr) : Sp := fun vs H Q _ => ∃ x : Addr, vs = [.ref x] ∧ H x = some (excO x (.ref C)) ∧ Q (.bl false) H
theorem h_law_other {c_MeetError c_NoPlan c_NoPaper c_NoPrimes c_TooMany c_NoText c_NoName c_NoRow : Addr} (O_NoPlan : OX K mg "NoPlan" c_NoPlan (.ref c_MeetError :: VE)) (O_NoPaper : OX K mg "NoPaper" c_NoPaper (.ref c_MeetError :: VE)) (O_NoPrimes : OX K mg "NoPrimes" c_NoPrimes (.ref c_MeetError :: VE)) (O_TooMany : OX K mg "TooMany" c_TooMany (.ref c_MeetError :: VE)) (O_NoText : OX K mg "NoText" c_NoText (.ref c_MeetError :: VE)) (O_NoName : OX K mg "NoName" c_NoName (.ref c_MeetError :: VE)) (O_NoRow : OX K mg "NoRow" c_NoRow (.ref c_MeetError :: VE)) (Z_NoText : OC K c_NoText) (ndE : [c_MeetError, c_NoPlan, c_NoPaper, c_NoPrimes, c_TooMany, c_NoText, c_NoName, c_NoRow].Nodup) (T : TF K mg "_law_other" s_law_other) (m_isinstance : mg "isinstance" = none) : Has P w K mg base 1 "_law_other" ["e"] (sp_otherC c_NoText) := by
  refine T.has sc_law_other (fun _ _ _ _ _ _ us hl => match us, hl with | [_], _ => rfl) (fun vs H Q E h => ?_) (fun f cdv A outer s H vs Q E hr h => ?_)
  · obtain ⟨x, rfl, _⟩ := h
    rfl
  simp only [List.nodup_cons, List.mem_cons, List.not_mem_nil, or_false, not_or] at ndE
  obtain ⟨⟨m1, m2, m3, m4, m5, m6, m7⟩, ⟨p2, p3, p4, p5, p6, p7⟩, ⟨q3, q4, q5, q6, q7⟩, ⟨r4, r5, r6, r7⟩, ⟨t5, t6, t7⟩, ⟨u6, u7⟩, _⟩ := ndE
  have nc : ∀ C C' : Addr, C ≠ C' → c_MeetError ≠ C' → ((Value.ref C :: Value.ref c_MeetError :: VE).contains (Value.ref C') = true) → False := fun C C' h1 h2 z => by
    have : (Value.ref C :: Value.ref c_MeetError :: VE).contains (Value.ref C') = false := by
      simp only [List.contains_cons, Bool.or_eq_false_iff, beq_eq_false_iff_ne, ne_eq, Value.ref.injEq]
      exact ⟨fun e => h1 e.symm, fun e => h2 e.symm, by simp⟩
    rw [this] at z
    cases z
  obtain ⟨x, rfl, hx, q⟩ := h
  refine ⟨_, (pss_cons (ps_if (PW.pt (pw_or (pt_val (pe_callB (call_isXO Z_NoText O_NoText (by simp) O_NoName) rfl m_isinstance (by decide +kernel) (pa_cons (pv 0) (pa_cons (pe_glob (v := .ref c_NoName) rfl O_NoName.bound rfl) pa_nil))) (fun _ => rfl)) (pw_or (pt_val (pe_callB (call_isXO Z_NoText O_NoText (by simp) O_NoPaper) rfl m_isinstance (by decide +kernel) (pa_cons (pv 0) (pa_cons (pe_glob (v := .ref c_NoPaper) rfl O_NoPaper.bound rfl) pa_nil))) (fun _ => rfl)) (pw_or (pt_val (pe_callB (call_isXO Z_NoText O_NoText (by simp) O_NoPrimes) rfl m_isinstance (by decide +kernel) (pa_cons (pv 0) (pa_cons (pe_glob (v := .ref c_NoPrimes) rfl O_NoPrimes.bound rfl) pa_nil))) (fun _ => rfl)) (pw_or1 (pt_val (pe_callB (call_isXO Z_NoText O_NoText (by simp) O_NoPlan) rfl m_isinstance (by decide +kernel) (pa_cons (pv 0) (pa_cons (pe_glob (v := .ref c_NoPlan) rfl O_NoPlan.bound rfl) pa_nil))) (fun _ => rfl))))))) (pss_one (ps_ret pe_bl)) pss_nil) (pss_one (ps_ret (pe_or (pe_callB (call_isXO Z_NoText O_NoText (by simp) O_NoRow) rfl m_isinstance (by decide +kernel) (pa_cons (pv 0) (pa_cons (pe_glob (v := .ref c_NoRow) rfl O_NoRow.bound rfl) pa_nil))) (pe_one (pe_callB (call_isXO Z_NoText O_NoText (by simp) O_TooMany) rfl m_isinstance (by decide +kernel) (pa_cons (pv 0) (pa_cons (pe_glob (v := .ref c_TooMany) rfl O_TooMany.bound rfl) pa_nil)))))))), ?_⟩
  walk_at "wp"
  refine ⟨x, rfl, hx, _, rfl, fun z => (nc _ _ u6 m6 z).elim, fun _ => ⟨x, rfl, hx, _, rfl, fun z => (nc _ _ (Ne.symm q5) m2 z).elim, fun _ => ⟨x, rfl, hx, _, rfl, fun z => (nc _ _ (Ne.symm r5) m3 z).elim, fun _ => ⟨x, rfl, hx, _, rfl, fun z => (nc _ _ (Ne.symm p5) m1 z).elim, fun _ => ⟨x, rfl, hx, _, rfl, fun z => (nc _ _ u7 m7 z).elim, fun _ => ⟨x, rfl, hx, ?_⟩⟩⟩⟩⟩⟩
  rw [Bool.eq_false_iff.mpr fun z => nc _ _ (Ne.symm t5) m4 z]
  exact q
def sp_law (K : PySem.W.Frag) : Sp := fun vs H Q _ => ∃ (a : Addr) (ns : List Int), vs = [.ref a] ∧ SqL K H a (ns.map V.int) ∧ ns.length ≤ 63 ∧ (∀ z ∈ ns, Builtin.Int.intBits z ≤ 2 ^ 20) ∧ ∀ H', Q (.bl true) H'
theorem sp_start (K : PySem.W.Frag) (H : Hp) (a : Addr) (ns : List Int) (h1 : ns.length ≤ 63) (hb : ∀ z ∈ ns, Builtin.Int.intBits z ≤ 2 ^ 20) (h2 : SqL K H a (ns.map V.int)) : sp_law K [.ref a] H (fun v _ => v = .bl true) fun _ _ _ => False := ⟨a, ns, rfl, h2, h1, hb, fun _ => rfl⟩

theorem h_law {c_MeetError c_NoText : Addr} (O_MeetError : OX K mg "MeetError" c_MeetError VE) (O_NoText : OX K mg "NoText" c_NoText (.ref c_MeetError :: VE)) (Z_NoText : OC K c_NoText) (T : TF K mg "law" s_law) (m_isinstance : mg "isinstance" = none) (m_tuple : mg "tuple" = none) (m_ValueError : mg "ValueError" = none) (G_law_text : Has P w K mg base 2 "_law_text" ["script"] (sp_text74 K)) (G_law_writes : Has P w K mg base 3 "_law_writes" ["text"] sp_writes) (G_read_paper : HasX P w K mg base 87 "read_paper" ["text"] (sp_rpaperX K c_NoText)) (G_shown_paper : Has P w K mg base 42 "shown_paper" ["paper"] (sp_shown K 41)) (G_law_other : Has P w K mg base 1 "_law_other" ["e"] (sp_otherC c_NoText)) : Has P w K mg base 88 "law" ["script"] (sp_law K) := by
  refine T.has sc_law (fun _ _ _ _ _ _ us hl => match us, hl with | [_], _ => rfl) (fun vs H Q E h => ?_) (fun f cdv A outer s H vs Q E hr h => ?_)
  · obtain ⟨a, ns, rfl, _⟩ := h
    rfl
  obtain ⟨a, ns, rfl, hS, _, _, q⟩ := h
  refine ⟨_, (pss_cons (ps_set (i := 1) sc_law.nd rfl (Or.inl rfl) (pe_def (G_law_text.mono (by first | decide | omega)) hr (pa_cons (pv 0) pa_nil))) (pss_cons (ps_set (i := 2) sc_law.nd rfl (Or.inl rfl) pe_non) (pss_cons (ps_set (i := 3) sc_law.nd rfl (Or.inl rfl) pe_non) (pss_cons (ps_try rfl rfl rfl (pxs_set (i := 2) sc_law.nd rfl (Or.inl rfl) (pxe_call rfl (G_read_paper.mono (by first | decide | omega)) hr (pa_cons (pv 1) pa_nil))) (ph_cons_as (i := 4) rfl sc_law.nd (fun _ => pm_own O_NoText O_MeetError) (fun _ => (pss_one (ps_set (i := 3) sc_law.nd rfl (Or.inl rfl) (pv 4)))) ph_nil)) (pss_cons (ps_if (pt_val (pe_def (G_law_writes.mono (by first | decide | omega)) hr (pa_cons (pv 1) pa_nil)) (fun _ => rfl)) (pss_one (ps_ret (pe_and (pe_cmpR op_isN (pv 3) pe_non (nomark _)) (pe_and (pe_callB call_isI rfl m_isinstance (by decide +kernel) (pa_cons (pv 2) (pa_cons (pe_bltn (v := .ty "tuple") rfl m_tuple (by decide +kernel) rfl) pa_nil))) (pe_one (pe_cmpR op_eq (pe_def (G_shown_paper.mono (by first | decide | omega)) hr (pa_cons (pv 2) pa_nil)) (pv 1) (nomark _))))))) pss_nil) (pss_one (ps_ret (pe_and (pe_callB (call_isXO Z_NoText O_NoText (by simp) O_NoText) rfl m_isinstance (by decide +kernel) (pa_cons (pv 3) (pa_cons (pe_glob (v := .ref c_NoText) rfl O_NoText.bound rfl) pa_nil))) (pe_and (pe_callB (call_isXT (T := "ValueError") O_NoText (by simp) (by decide +kernel)) rfl m_isinstance (by decide +kernel) (pa_cons (pv 3) (pa_cons (pe_bltn (v := .ty "ValueError") rfl m_ValueError (by decide +kernel) rfl) pa_nil))) (pe_one (pe_not (pe_def (G_law_other.mono (by first | decide | omega)) hr (pa_cons (pv 3) pa_nil))))))))))))), ?_⟩
  walk_at "wp"
  refine ⟨a, ns, rfl, hS, fun z H1 g1 hz => ?_⟩
  obtain ⟨l, rfl⟩ : ∃ l, z = tx l := ⟨_, (tx_cps z).symm⟩
  have hl : TxOk l := ⟨Nat.le_trans (by rw [← tx_len]; exact hz.1) (by decide), asc_tx.mp hz.2⟩
  have mr := mach_rd 40 0 (l.length + 1) l rfl (Nat.lt_succ_self _)
  unfold tTry
  walk_at "wp"
  refine ⟨l, rfl, hl, fun no x H3 g3 hx => ⟨x, rfl, rfl, ?_⟩, fun p v H3 ep g3 hv => ?_⟩
  · have em : mach (l.length + 1) true 0 l = false := by
      cases e : rdP 40 l with
      | none => exact mr.1 e
      | some y =>
        obtain ⟨p, r⟩ := y
        rw [mr.2 p r e, mach_f, if_neg (by decide), if_pos rfl]
        refine decide_eq_false fun er => no p ?_
        rw [e, er]
    have hc : (Value.ref c_NoText :: Value.ref c_MeetError :: VE).contains (Value.ref c_MeetError) = true := by simp
    unfold tBool
    rw [hc]
    unfold tSuiteAs
    walk_at "wp"
    have hxx : (upd H3 x (excO x (.ref c_NoText))) x = some (excO x (.ref c_NoText)) := upd_same
    generalize upd H3 x (excO x (.ref c_NoText)) = H4 at hxx ⊢
    refine ⟨l, rfl, hl, ?_⟩
    rw [em]
    refine ⟨_, rfl, (fun c => nomatch c), fun _ => ⟨x, rfl, hxx, ?_⟩⟩
    rw [show (Value.ref c_NoText :: Value.ref c_MeetError :: VE).contains (Value.ref c_NoText) = true by simp]
    exact ⟨_, rfl, fun _ => ⟨x, rfl, hxx, _, rfl, fun _ => ⟨x, rfl, hxx, _, rfl, q _⟩, fun c => absurd rfl c⟩, fun c => absurd rfl c⟩
  · have em : mach (l.length + 1) true 0 l = true := by
      rw [mr.2 p [] ep, mach_f, if_neg (by decide), if_pos rfl]
      rfl
    obtain ⟨e1, e2, e3⟩ := rdP_wr 40 _ _ _ ep
    rw [List.append_nil] at e1
    refine ⟨l, rfl, hl, ?_⟩
    rw [em]
    refine ⟨_, rfl, fun _ => ?_, fun c => absurd rfl c⟩
    have fin : sp_shown K 41 [v] H3 (fun x H1 => rEq x (V.str (tx l)) H1 Q) E0 := by
      refine ⟨v, p, rfl, hv.any, e2, by rw [← e1]; exact hl.1, by omega, fun H5 g5 => ?_⟩
      rw [← e1]
      exact eqT (by rw [decide_eq_true rfl]; exact q _)
    cases hv with
    | inn hb => exact ⟨_, _, _, true, rfl, .tup hb, rfl, _, rfl, fun _ => fin, fun c => absurd rfl c⟩
    | par hb => exact ⟨_, _, _, true, rfl, .tup hb, rfl, _, rfl, fun _ => fin, fun c => absurd rfl c⟩

theorem fin {fa : Addr} {h : Heap} (KX : K.In h) (G : h.Ns mainGlobals mg) (hfa : mg "law" = some (.ref fa)) (T_is_figures : TF K mg "is_figures" s_is_figures) (T_read_number : TF K mg "read_number" s_read_number) (T_shown_paper : TF K mg "shown_paper" s_shown_paper) (T_read_paper : TF K mg "read_paper" s_read_paper) (T_law_cell_at : TF K mg "_law_cell_at" s_law_cell_at) (T_law_good : TF K mg "_law_good" s_law_good) (T_law_deep : TF K mg "_law_deep" s_law_deep) (T_law_odd : TF K mg "_law_odd" s_law_odd) (T_law_text : TF K mg "_law_text" s_law_text) (T_law_figures_end : TF K mg "_law_figures_end" s_law_figures_end) (T_law_knot_end : TF K mg "_law_knot_end" s_law_knot_end) (T_law_writes : TF K mg "_law_writes" s_law_writes) (T_law_other : TF K mg "_law_other" s_law_other) (T_law : TF K mg "law" s_law) (m_len : mg "len" = none) (m_min : mg "min" = none) (m_all : mg "all" = none) (m_int : mg "int" = none) (m_str : mg "str" = none) (m_tuple : mg "tuple" = none) (m_isinstance : mg "isinstance" = none) (m_ValueError : mg "ValueError" = none) (c_MOST_FIGURES : CI mg "MOST_FIGURES" 100) (c_MOST_DEPTH : CI mg "MOST_DEPTH" 40) (c_FIGURES : CS mg "FIGURES" "0123456789") {c_MeetError c_NoPlan c_NoPaper c_NoPrimes c_TooMany c_NoText c_NoName c_NoRow : Addr} (O_MeetError : OX K mg "MeetError" c_MeetError VE) (O_NoPlan : OX K mg "NoPlan" c_NoPlan (.ref c_MeetError :: VE)) (O_NoPaper : OX K mg "NoPaper" c_NoPaper (.ref c_MeetError :: VE)) (O_NoPrimes : OX K mg "NoPrimes" c_NoPrimes (.ref c_MeetError :: VE)) (O_TooMany : OX K mg "TooMany" c_TooMany (.ref c_MeetError :: VE)) (O_NoText : OX K mg "NoText" c_NoText (.ref c_MeetError :: VE)) (O_NoName : OX K mg "NoName" c_NoName (.ref c_MeetError :: VE)) (O_NoRow : OX K mg "NoRow" c_NoRow (.ref c_MeetError :: VE)) (Z_NoText : OC K c_NoText) (ndE : [c_MeetError, c_NoPlan, c_NoPaper, c_NoPrimes, c_TooMany, c_NoText, c_NoName, c_NoRow].Nodup) {C_PaperReader : Addr} (cl_PaperReader : Cls K C_PaperReader) (na_PaperReader_text : NoAttr K C_PaperReader "text") (na_PaperReader_place : NoAttr K C_PaperReader "place") (mk_PaperReader : PySem.W.makesIn K C_PaperReader = true) (kc_PaperReader : PySem.W.keepIn K (.ref C_PaperReader) = true) (mg_PaperReader : mg "PaperReader" = some (.ref C_PaperReader)) (T_PaperReader___init__ : TM K C_PaperReader "__init__" "PaperReader.__init__" s_PaperReader___init__) (T_PaperReader_passes : TM K C_PaperReader "passes" "PaperReader.passes" s_PaperReader_passes) (T_PaperReader_needs : TM K C_PaperReader "needs" "PaperReader.needs" s_PaperReader_needs) (T_PaperReader_next_number : TM K C_PaperReader "next_number" "PaperReader.next_number" s_PaperReader_next_number) (T_PaperReader_next_papers : TM K C_PaperReader "next_papers" "PaperReader.next_papers" s_PaperReader_next_papers) (T_PaperReader_next_paper : TM K C_PaperReader "next_paper" "PaperReader.next_paper" s_PaperReader_next_paper) :
    ∃ fd : FuncData, (∀ (s : Shared) (v : Value), BindsTo s fd ⟨[v], []⟩ [("script", v)]) ∧ ∀ base : Heap, K.In base → base.Ns mainGlobals mg → FnOk P w K mg base CX0 88 fa fd ["script"] (sp_law K) :=
  has_law KX G hfa fun _ _ _ =>
    have X : RdTx K C_PaperReader := ⟨cl_PaperReader, na_PaperReader_text, na_PaperReader_place⟩
    have ca := h_law_cell_at T_law_cell_at m_len
    have rn := h_read_number T_read_number m_int O_NoText c_MOST_FIGURES (h_is_figures T_is_figures m_len m_all c_FIGURES)
    have ps := h_passes X T_PaperReader_passes m_len
    have ne := h_needsX cl_PaperReader T_PaperReader_needs O_NoText ps
    have nn := h_next_numberX X T_PaperReader_next_number m_len c_FIGURES rn
    have np := h_next_allX cl_PaperReader T_PaperReader_next_paper T_PaperReader_next_papers O_NoText c_MOST_DEPTH ps ne nn 41
    h_law O_MeetError O_NoText Z_NoText T_law m_isinstance m_tuple m_ValueError (h_law_text T_law_text m_len ca (h_law_good T_law_good m_len m_min m_str) (h_law_deep T_law_deep) (h_law_odd T_law_odd)) (h_law_writes T_law_writes m_len m_int (h_law_knot_end T_law_knot_end (h_law_figures_end T_law_figures_end m_len)))
      (h_read_paperX X cl_PaperReader mk_PaperReader kc_PaperReader mg_PaperReader O_NoText T_read_paper m_len (h_rinit X T_PaperReader___init__) np) (h_shown_paper T_shown_paper 41) (h_law_other O_NoPlan O_NoPaper O_NoPrimes O_TooMany O_NoText O_NoName O_NoRow Z_NoText ndE T_law_other m_isinstance)
end
end SMk74
set_option maxRecDepth 100000 in
set_option maxHeartbeats 0 in
theorem PySem.Challenge.cw_shiftmeet_k74_papers_refused_holds : PySem.Challenge.rw_shiftmeet_k74_papers_refused.Holds := by
  w_on; o_law; k_head; (case hw => w_witness2)
  k_fill
  refine L2.law_walk (l := PySem.Challenge.rw_shiftmeet_k74_papers_refused) (k := 88) (sp := SMk74.sp_law) rfl rfl ⟨rfl, by decide, by decide⟩ (fun w h Y => PySem.W.kIn_of Y) ?F SMk74.sp_start
  case F =>
    intro w mg fa h KX G hmg
    refine' SMk74.fin KX G hmg (L2.tf_mk KX G ?a0 ?l0 ?c0 ?k0) (L2.tf_mk KX G ?a1 ?l1 ?c1 ?k1) (L2.tf_mk KX G ?a2 ?l2 ?c2 ?k2) (L2.tf_mk KX G ?a3 ?l3 ?c3 ?k3) (L2.tf_mk KX G ?a4 ?l4 ?c4 ?k4) (L2.tf_mk KX G ?a5 ?l5 ?c5 ?k5) (L2.tf_mk KX G ?a6 ?l6 ?c6 ?k6) (L2.tf_mk KX G ?a7 ?l7 ?c7 ?k7) (L2.tf_mk KX G ?a8 ?l8 ?c8 ?k8) (L2.tf_mk KX G ?a9 ?l9 ?c9 ?k9) (L2.tf_mk KX G ?a10 ?l10 ?c10 ?k10) (L2.tf_mk KX G ?a11 ?l11 ?c11 ?k11) (L2.tf_mk KX G ?a12 ?l12 ?c12 ?k12) (L2.tf_mk KX G ?a13 ?l13 ?c13 ?k13) (PySem.W.mg_none_of KX G ?z0) (PySem.W.mg_none_of KX G ?z1) (PySem.W.mg_none_of KX G ?z2) (PySem.W.mg_none_of KX G ?z3) (PySem.W.mg_none_of KX G ?z4) (PySem.W.mg_none_of KX G ?z5) (PySem.W.mg_none_of KX G ?z6) (PySem.W.mg_none_of KX G ?z7) (L2.ci_mk KX G ?q0) (L2.ci_mk KX G ?q1) (L2.cs_mk KX G ?q2) (L2.ox_mk KX G ?ea0 ?el0 ?ex0) (L2.ox_mk KX G ?ea1 ?el1 ?ex1) (L2.ox_mk KX G ?ea2 ?el2 ?ex2) (L2.ox_mk KX G ?ea3 ?el3 ?ex3) (L2.ox_mk KX G ?ea4 ?el4 ?ex4) (L2.ox_mk KX G ?ea5 ?el5 ?ex5) (L2.ox_mk KX G ?ea6 ?el6 ?ex6) (L2.ox_mk KX G ?ea7 ?el7 ?ex7) ⟨?oa0, ?ob0, ?oc0⟩ ?nd ⟨?pg0, ?hd0, ?po0, ?sa0⟩ ?nf0_0 ?nf0_1 ?mk0 ?kc0 (PySem.W.mg_of KX G ?aC0) (L2.tm_mk ?ma0_0 ?mi0_0 ?ml0_0 ?mc0_0 ?mp0_0) (L2.tm_mk ?ma0_1 ?mi0_1 ?ml0_1 ?mc0_1 ?mp0_1) (L2.tm_mk ?ma0_2 ?mi0_2 ?ml0_2 ?mc0_2 ?mp0_2) (L2.tm_mk ?ma0_3 ?mi0_3 ?ml0_3 ?mc0_3 ?mp0_3) (L2.tm_mk ?ma0_4 ?mi0_4 ?ml0_4 ?mc0_4 ?mp0_4) (L2.tm_mk ?ma0_5 ?mi0_5 ?ml0_5 ?mc0_5 ?mp0_5)
    (case aC0 => k_is)
    (case a0 => k_is); (case l0 => k_is); (case c0 => k_is); (case k0 => k_is)
    (case a1 => k_is); (case l1 => k_is); (case c1 => k_is); (case k1 => k_is)
    (case a2 => k_is); (case l2 => k_is); (case c2 => k_is); (case k2 => k_is)
    (case a3 => k_is); (case l3 => k_is); (case c3 => k_is); (case k3 => k_is)
    (case a4 => k_is); (case l4 => k_is); (case c4 => k_is); (case k4 => k_is)
    (case a5 => k_is); (case l5 => k_is); (case c5 => k_is); (case k5 => k_is)
    (case a6 => k_is); (case l6 => k_is); (case c6 => k_is); (case k6 => k_is)
    (case a7 => k_is); (case l7 => k_is); (case c7 => k_is); (case k7 => k_is)
    (case a8 => k_is); (case l8 => k_is); (case c8 => k_is); (case k8 => k_is)
    (case a9 => k_is); (case l9 => k_is); (case c9 => k_is); (case k9 => k_is)
    (case a10 => k_is); (case l10 => k_is); (case c10 => k_is); (case k10 => k_is)
    (case a11 => k_is); (case l11 => k_is); (case c11 => k_is); (case k11 => k_is)
    (case a12 => k_is); (case l12 => k_is); (case c12 => k_is); (case k12 => k_is)
    (case a13 => k_is); (case l13 => k_is); (case c13 => k_is); (case k13 => k_is)
    (case z0 => k_is)
    (case z1 => k_is)
    (case z2 => k_is)
    (case z3 => k_is)
    (case z4 => k_is)
    (case z5 => k_is)
    (case z6 => k_is)
    (case z7 => k_is)
    (case q0 => k_is)
    (case q1 => k_is)
    (case q2 => k_is)
    (case ea0 => k_is); (case el0 => k_is); (case ex0 => k_exc)
    (case ea1 => k_is); (case el1 => k_is); (case ex1 => k_exc)
    (case ea2 => k_is); (case el2 => k_is); (case ex2 => k_exc)
    (case ea3 => k_is); (case el3 => k_is); (case ex3 => k_exc)
    (case ea4 => k_is); (case el4 => k_is); (case ex4 => k_exc)
    (case ea5 => k_is); (case el5 => k_is); (case ex5 => k_exc)
    (case ea6 => k_is); (case el6 => k_is); (case ex6 => k_exc)
    (case ea7 => k_is); (case el7 => k_is); (case ex7 => k_exc)
    (case oa0 => k_is); (case ob0 => k_is); (case oc0 => k_is)
    (case nd => decide +kernel)
    (case pg0 => k_is); (case hd0 => k_is); (case po0 => k_is); (case sa0 => k_is)
    (case nf0_0 => (unfold L2.NoAttr; k_is))
    (case nf0_1 => (unfold L2.NoAttr; k_is))
    (case mk0 => k_is); (case kc0 => k_is)
    (case ma0_0 => k_is); (case mi0_0 => k_is); (case ml0_0 => k_is); (case mc0_0 => k_is); (case mp0_0 => k_is)
    (case ma0_1 => k_is); (case mi0_1 => k_is); (case ml0_1 => k_is); (case mc0_1 => k_is); (case mp0_1 => k_is)
    (case ma0_2 => k_is); (case mi0_2 => k_is); (case ml0_2 => k_is); (case mc0_2 => k_is); (case mp0_2 => k_is)
    (case ma0_3 => k_is); (case mi0_3 => k_is); (case ml0_3 => k_is); (case mc0_3 => k_is); (case mp0_3 => k_is)
    (case ma0_4 => k_is); (case mi0_4 => k_is); (case ml0_4 => k_is); (case mc0_4 => k_is); (case mp0_4 => k_is)
    (case ma0_5 => k_is); (case mi0_5 => k_is); (case ml0_5 => k_is); (case mc0_5 => k_is); (case mp0_5 => k_is)


import PyProof.Rows.All
import Wide.All
import OpenK.AllK
import Wide.FinOn
import PyProof.EqAt
import PyProof.EqKinds
import PyProof.TupleCall
import Lean
import PySem.Challenge.RW_shiftmeet_k63_waits_of_letters
-- CHANGE: your row's module here, as the last of these rows
set_option Elab.async false
set_option linter.all false
set_option maxRecDepth 100000
theorem L2.put_away {p : Prop} (h : ∀ G : Prop, (p → G) → G) : p := h p id
namespace L2
open PySem PySem.Spec PyProof.Rows

noncomputable abbrev Key := Sum Int Str
noncomputable def keyIs : Key → Value → Bool
  | .inl k, v => Value.isInt k v
  | .inr x, v => Value.isStrOf x v
noncomputable def keyH (w : World) : Key → Int
  | .inl k => hashInt k
  | .inr x => hashStr w x
theorem keyIs_shape : ∀ {k : Key} {v : Value}, keyIs k v = true → (∃ i t, k = Sum.inl i ∧ v = Value.int i t) ∨ (∃ x t, k = Sum.inr x ∧ v = Value.str x t)
  | .inl i, v, h => by
    obtain ⟨t, e⟩ := Value.isInt_shape (k := i) (v := v) h
    exact .inl ⟨i, t, rfl, e⟩
  | .inr x, v, h => by
    obtain ⟨t, e⟩ := Value.isStrOf_shape (x := x) (v := v) h
    exact .inr ⟨x, t, rfl, e⟩
theorem key_ll (a b : Int) : decide ((Sum.inl a : Key) = Sum.inl b) = (a == b) := by
  by_cases e : a = b
  · subst e; simp
  · have h : ¬ (Sum.inl a : Key) = Sum.inl b := fun q => e (Sum.inl.inj q)
    rw [decide_eq_false h]
    exact (beq_eq_false_iff_ne.mpr e).symm
theorem key_rr (a b : Str) : decide ((Sum.inr a : Key) = Sum.inr b) = decide (a = b) := by
  by_cases e : a = b
  · subst e; simp
  · have h : ¬ (Sum.inr a : Key) = Sum.inr b := fun q => e (Sum.inr.inj q)
    rw [decide_eq_false h, decide_eq_false e]
theorem key_lr (a : Int) (b : Str) : decide ((Sum.inl a : Key) = Sum.inr b) = false := decide_eq_false (fun q => nomatch q)
theorem key_rl (a : Str) (b : Int) : decide ((Sum.inr a : Key) = Sum.inl b) = false := decide_eq_false (fun q => nomatch q)

noncomputable def mixKind (prog : Program) (w : World) : PySem.KeyKind prog w Key where
  is := keyIs
  hash := keyH w
  inj := fun v a b ha hb => by
    rcases keyIs_shape ha with ⟨i, t, rfl, rfl⟩ | ⟨x, t, rfl, rfl⟩
    · rcases keyIs_shape hb with ⟨j, u, rfl, e⟩ | ⟨y, u, rfl, e⟩
      · injection e with e1 _; rw [e1]
      · exact nomatch e
    · rcases keyIs_shape hb with ⟨j, u, rfl, e⟩ | ⟨y, u, rfl, e⟩
      · exact nomatch e
      · injection e with e1 _; rw [e1]
  byValue := fun k v h => by
    rcases keyIs_shape h with ⟨i, t, rfl, rfl⟩ | ⟨x, t, rfl, rfl⟩ <;> rfl
  pyHash := fun hv h => by
    rcases keyIs_shape hv with ⟨i, t, rfl, rfl⟩ | ⟨x, t, rfl, rfl⟩
    · exact wpAny_pyHash_int h
    · exact wpAny_pyHash_str h
  eqBool := fun hu hv h => by
    rcases keyIs_shape hu with ⟨i, t, rfl, rfl⟩ | ⟨x, t, rfl, rfl⟩
    · rcases keyIs_shape hv with ⟨j, u, rfl, rfl⟩ | ⟨y, u, rfl, rfl⟩
      · rw [key_ll] at h; exact wpAny_eqBool_int h
      · rw [key_lr] at h; exact SeqAt.EqAt.int_str i t y u _ _ _ _ h
    · rcases keyIs_shape hv with ⟨j, u, rfl, rfl⟩ | ⟨y, u, rfl, rfl⟩
      · rw [key_rl] at h; exact SeqAt.EqAt.str_int x t j u _ _ _ _ h
      · rw [key_rr] at h; exact wpAny_eqBool_str h
  «strs» := fun k x t v h => by
    rcases keyIs_shape h with ⟨i, u, rfl, e⟩ | ⟨y, u, rfl, e⟩
    · exact nomatch e
    · injection e with e1 _
      subst e1
      cases v <;> rfl

end L2

namespace L2
open PySem PySem.Spec PyProof.Rows

inductive V where
  | non | bl (b : Bool) | int (i : Int) | str (x : Str) | byt (b : Array UInt8) | flt (b : UInt64) | ref (a : Addr) | ty (n : String)
  deriving DecidableEq

noncomputable def RelV : V → Value → Prop
  | .non, u => u = Value.none
  | .bl b, u => u = Value.bool b
  | .int i, u => ∃ t, u = Value.int i t
  | .str x, u => ∃ t, u = Value.str x t
  | .byt b, u => ∃ t, u = Value.bytes b t
  | .flt b, u => ∃ t, u = Value.float b t
  | .ref a, u => u = Value.ref a
  | .ty n, u => u = Value.type n

noncomputable abbrev Vals : List V → List Value → Prop := Paired RelV
theorem Vals.length {xs : List V} {us : List Value} (r : Vals xs us) : xs.length = us.length := Paired.length r
theorem Vals.get : ∀ {xs : List V} {us : List Value} {i : Nat} {x : V}, Vals xs us → xs[i]? = some x → ∃ u, us[i]? = some u ∧ RelV x u
  | _, _, _, _, .nil, e => by simp at e
  | _, _, 0, _, .cons r _, e => by simp at e; subst e; exact ⟨_, rfl, r⟩
  | _, _, i + 1, x, .cons _ t, e => by
    refine L2.put_away fun G'37x4 h'37x4 => ?_
    obtain ⟨u, h1, h2⟩ := Vals.get (i := i) (x := x) t (by simpa using e)
    refine h'37x4 ?_
    exact ⟨u, by simpa using h1, h2⟩
theorem Vals.set {x : V} {u : Value} (r : RelV x u) : ∀ {xs : List V} {us : List Value} (i : Nat), Vals xs us → Vals (xs.set i x) (us.set i u)
  | _, _, _, .nil => .nil
  | _, _, 0, .cons _ t => .cons r t
  | _, _, i + 1, .cons q t => .cons q (Vals.set r i t)
theorem Vals.append : ∀ {xs ys : List V} {us ws : List Value}, Vals xs us → Vals ys ws → Vals (xs ++ ys) (us ++ ws)
  | _, _, _, _, .nil, s => s
  | _, _, _, _, .cons r t, s => .cons r (Vals.append t s)
theorem Vals.take : ∀ {xs : List V} {us : List Value} (n : Nat), Vals xs us → Vals (xs.take n) (us.take n)
  | _, _, 0, _ => .nil
  | _, _, _ + 1, .nil => .nil
  | _, _, n + 1, .cons r t => .cons r (Vals.take n t)
theorem Vals.drop : ∀ {xs : List V} {us : List Value} (n : Nat), Vals xs us → Vals (xs.drop n) (us.drop n)
  | _, _, 0, r => r
  | _, _, _ + 1, .nil => .nil
  | _, _, n + 1, .cons _ t => Vals.drop n t
noncomputable def RelO : Option V → Option Value → Prop
  | some v, some u => RelV v u
  | none, none => True
  | _, _ => False
noncomputable def KV {κ : Type} : List (κ × V) → List (κ × Value) → Prop := Paired fun (p : κ × V) (q : κ × Value) => p.1 = q.1 ∧ RelV p.2 q.2

noncomputable def kV : Key → V
  | .inl i => .int i
  | .inr x => .str x

inductive HO where
  /-- a list -/
  | lst (xs : List V)
  /-- a tuple (never changes) -/
  | tup (xs : List V)
  /-- a dict whose keys are ints and texts; one whose keys are tuples of ints and texts (the empty one is both) -/
  | dK (kvs : List (Key × V)) | dT (kvs : List (List Key × V))
  /-- a set of ints: its members, its size -/
  | set (S : Int → Bool) (n : Nat)
  /-- an instance of the class at C, its dict at dx, its attributes -/
  | ins (C dx : Addr) (fs : List (Str × V))
  /-- the dict of the instance at x -/
  | own (x : Addr)
  /-- the dict of an exception -/
  | xd (fs : List (Str × V))
  /-- a bound method, f of x -/
  | met (f x : Addr)
  /-- a range object lo, lo + 1, .. below hi -/
  | rng (lo hi : Int)
  /-- a thing that is known to the object (the script; a dict while a loop walks it): read, never written while it is so -/
  | frz (o : Obj) (u : HO)
  /-- a code object's table -/
  | tbl (ps : Array Value)
  /-- any other thing, by what is true of its one object (a def of one's own: SetO a S n := HO.ext fun h => ..) -/
  | ext (φ : Heap → Prop)

noncomputable abbrev Hp := Addr → Option HO
noncomputable def upd (H : Hp) (a : Addr) (o : HO) : Hp := fun b => if b = a then some o else H b
theorem upd_same {H : Hp} {a : Addr} {o : HO} : upd H a o a = some o := by unfold upd; rw [if_pos rfl]
theorem upd_ne {H : Hp} {a b : Addr} {o : HO} (h : b ≠ a) : upd H a o b = H b := by unfold upd; rw [if_neg h]
theorem ne_of {H : Hp} {a b : Addr} {o u : HO} (h : H a = some o) (h' : H b = some u) (d : o ≠ u) : a ≠ b := by
  intro e; subst e; rw [h] at h'; exact d (Option.some.inj h')
theorem ne_of_none {H : Hp} {a b : Addr} {o : HO} (h : H a = some o) (h' : H b = none) : a ≠ b := by
  intro e; subst e; rw [h] at h'; cases h'

section
variable (P : Program) (w : World)
noncomputable def ObjOk (H : Hp) (h : Heap) (a : Addr) : HO → Prop
  | .lst xs => xs.length ≤ sizeLine ∧ ∃ (its : List Value) (n : Nat), Vals xs its ∧ h.get? a = some { cls := .type "list", data := .seq its.toArray n }
  | .tup xs => xs.length ≤ sizeLine ∧ ∃ its : List Value, Vals xs its ∧ IsTup h a its.toArray
  | .dK kvs => kvs.length ≤ sizeLine ∧ (a == sysModules) = false ∧ ∃ vs, KV kvs vs ∧ h.DictOf (mixKind P w) a vs
  | .dT kvs => kvs.length ≤ sizeLine ∧ (a == sysModules) = false ∧ ∃ xs : List (List Key × Addr × Value),
      Paired (fun (p : List Key × V) (q : List Key × Addr × Value) => p.1 = q.1 ∧ H q.2.1 = some (.tup (p.1.map kV)) ∧ RelV p.2 q.2.2) kvs xs ∧
      ∃ o es ep, h.get? a = some o ∧ o.ExactDict ∧ o.data = .dict es ep ∧ es.toList = xs.map (entryOfKey (tupleKind (mixKind P w))) ∧ (xs.map (·.1)).Nodup
  | .set S n => h.SetOf (intKind P w) a S n
  | .ins C dx fs => H dx = some (.own a) ∧ fs.length ≤ 1000 ∧ dx ≠ a ∧ h.get? a = some (PySem.W.instObj C dx) ∧
      ∃ mA, h.Ns1 dx mA ∧ (∀ f, RelO (fs.lookup f) (mA f)) ∧ PySem.Within mA (fs.map (·.1))
  | .own _ => ∃ o, h.get? a = some o
  | .xd fs => ∃ mA, h.Ns1 a mA ∧ ∀ f, RelO (fs.lookup f) (mA f)
  | .rng lo hi => ∃ t u v, h.get? a = some { cls := .type "range", data := .fields #[.int lo t, .int hi u, .int 1 v] }
  | .frz o u => h.get? a = some o ∧ ObjOk H h a u
  | .tbl ps => h.get? a = some { cls := .none, data := .fields ps }
  | .met f x => h.get? a = some (PySem.W.methodObj (.ref f) (.ref x))
  | .ext φ => φ h ∧ (∃ o, h.get? a = some o) ∧ ∀ h1 h2 : Heap, φ h1 → (∀ o, h1.get? a = some o → h2.get? a = some o) → φ h2
noncomputable def HOk (H : Hp) (h : Heap) : Prop := ∀ a o, H a = some o → ObjOk P w H h a o
end

section
variable {P : Program} {w : World} {H H' : Hp} {h h' : Heap} {a : Addr} {o : HO}
theorem ObjOk.lt (x : ObjOk P w H h a o) : a < h.objs.size := by
  cases o with
  | lst xs => obtain ⟨_, _, _, _, e⟩ := x; exact Heap.lt_size e
  | tup xs => obtain ⟨_, _, _, p⟩ := x; exact p.lt
  | dK kvs => obtain ⟨_, _, _, _, o, _, _, e, _⟩ := x; exact Heap.lt_size e
  | dT kvs => obtain ⟨_, _, _, _, o, _, _, e, _⟩ := x; exact Heap.lt_size e
  | set S n => obtain ⟨o, _, _, _, e, _⟩ := x; exact Heap.lt_size e
  | ins C dx fs => obtain ⟨_, _, _, e, _⟩ := x; exact Heap.lt_size e
  | own y => obtain ⟨_, e⟩ := x; exact Heap.lt_size e
  | xd fs => obtain ⟨_, ⟨_, _, _, e, _⟩, _⟩ := x; exact Heap.lt_size e
  | rng lo hi => obtain ⟨_, _, _, e⟩ := x; exact Heap.lt_size e
  | frz ob u => obtain ⟨e, _⟩ := x; exact Heap.lt_size e
  | tbl ps => exact Heap.lt_size (show h.get? a = some _ from x)
  | met f y => exact Heap.lt_size (show h.get? a = some _ from x)
  | ext φ => obtain ⟨_, ⟨_, e⟩, _⟩ := x; exact Heap.lt_size e
theorem Paired.mapP {α β : Type} {F G : α → β → Prop} : ∀ {l₁ : List α} {l₂ : List β}, Paired F l₁ l₂ → (∀ a b, F a b → G a b) → Paired G l₁ l₂
  | _, _, .nil, _ => .nil
  | _, _, .cons r t, f => .cons (f _ _ r) (Paired.mapP t f)
theorem ObjOk.stay (x : ObjOk P w H h a o) (k : ∀ b u, (b = a ∨ H b = some (.own a)) → h.get? b = some u → h'.get? b = some u)
    (ho : ∀ b, H b = some (.own a) → H' b = some (.own a)) (ht : ∀ b xs, H b = some (.tup xs) → H' b = some (.tup xs)) : ObjOk P w H' h' a o := by
  induction o with
  | lst xs => obtain ⟨z, its, n, r, e⟩ := x; exact ⟨z, its, n, r, k _ _ (.inl rfl) e⟩
  | tup xs => obtain ⟨z, its, r, ob, e, c⟩ := x; exact ⟨z, its, r, ob, k _ _ (.inl rfl) e, c⟩
  | dK kvs => obtain ⟨z, y, vs, r, ob, es, ep, e, c⟩ := x; exact ⟨z, y, vs, r, ob, es, ep, k _ _ (.inl rfl) e, c⟩
  | dT kvs =>
    refine L2.put_away fun G'64x7 h'64x7 => ?_
    obtain ⟨z, y, xs, r, ob, es, ep, e, c⟩ := x
    refine h'64x7 ?_
    exact ⟨z, y, xs, Paired.mapP r fun p q z => ⟨z.1, ht _ _ z.2.1, z.2.2⟩, ob, es, ep, k _ _ (.inl rfl) e, c⟩
  | set S n => obtain ⟨ob, es, ep, t, e, c⟩ := x; exact ⟨ob, es, ep, t, k _ _ (.inl rfl) e, c⟩
  | ins C dx fs =>
    refine L2.put_away fun G'64x11 h'64x11 => ?_
    obtain ⟨d, z, ne, e, mA, ⟨od, es, ep, e2, c⟩, r⟩ := x
    refine h'64x11 ?_
    exact ⟨ho _ d, z, ne, k _ _ (.inl rfl) e, mA, ⟨od, es, ep, k _ _ (.inr d) e2, c⟩, r⟩
  | own y => obtain ⟨ob, e⟩ := x; exact ⟨ob, k _ _ (.inl rfl) e⟩
  | xd fs => obtain ⟨mA, ⟨od, es, ep, e, c⟩, r⟩ := x; exact ⟨mA, ⟨od, es, ep, k _ _ (.inl rfl) e, c⟩, r⟩
  | rng lo hi => obtain ⟨t, u, v, e⟩ := x; exact ⟨t, u, v, k _ _ (.inl rfl) e⟩
  | frz ob u ih => obtain ⟨e, q⟩ := x; exact ⟨k _ _ (.inl rfl) e, ih q⟩
  | tbl ps =>
    have e : h.get? a = some { cls := .none, data := .fields ps } := x
    show h'.get? a = some { cls := .none, data := .fields ps }
    exact k a _ (.inl rfl) e
  | met f y =>
    have e : h.get? a = some (PySem.W.methodObj (.ref f) (.ref y)) := x
    show h'.get? a = some (PySem.W.methodObj (.ref f) (.ref y))
    exact k a _ (.inl rfl) e
  | ext φ => obtain ⟨p, ⟨o, e⟩, st⟩ := x; exact ⟨st _ _ p fun o q => k _ _ (.inl rfl) q, ⟨o, k _ _ (.inl rfl) e⟩, st⟩
theorem HOk.lt (x : HOk P w H h) (e : H a = some o) : a < h.objs.size := (x a o e).lt
theorem HOk.fresh (x : HOk P w H h) (e : h.objs.size ≤ a) : H a = none := by
  cases q : H a with
  | none => rfl
  | some u => exact absurd (Nat.lt_of_lt_of_le (x.lt q) e) (Nat.lt_irrefl _)
theorem HOk.kept (x : HOk P w H h) (k : ∀ b u, h.get? b = some u → h'.get? b = some u) : HOk P w H h' := fun a o e =>
  (x a o e).stay (fun b u _ q => k b u q) (fun _ q => q) fun _ _ q => q
theorem HOk.laid (x : HOk P w H h) (k : ∀ b u, h.get? b = some u → h'.get? b = some u) (hp : h.objs.size ≤ a) (new : ObjOk P w (upd H a o) h' a o) : HOk P w (upd H a o) h' := fun b u e => by
  have hn := x.fresh hp
  by_cases hb : b = a
  · subst hb; rw [upd_same] at e; cases e; exact new
  · rw [upd_ne hb] at e
    exact (x b u e).stay (fun c v _ q => k c v q) (fun c q => by rw [upd_ne (ne_of_none q hn)]; exact q) fun c xs q => by rw [upd_ne (ne_of_none q hn)]; exact q
end

noncomputable def Rd (H : Hp) (a : Addr) (u : HO) : Prop := H a = some u ∨ ∃ o, H a = some (.frz o u)
theorem Rd.of {H : Hp} {a : Addr} {u : HO} (h : H a = some u) : Rd H a u := .inl h
theorem Rd.ok {P : Program} {w : World} {H : Hp} {h : Heap} {a : Addr} {u : HO} (r : Rd H a u) (x : HOk P w H h) : ObjOk P w H h a u := by
  rcases r with r | ⟨o, r⟩
  · exact x a u r
  · obtain ⟨_, q⟩ := x a _ r
    exact q
noncomputable def Mut : Option HO → Prop
  | some (.lst _) => True
  | some (.dK _) => True
  | some (.dT _) => True
  | some (.set _ _) => True
  | some (.ins _ _ _) => True
  | some (.ext _) => True
  | _ => False
section
variable {P : Program} {w : World} {H : Hp} {h h' : Heap} {x e : Addr} {o' : HO}
theorem HOk.write (ok : HOk P w H h) (mu : Mut (H x)) (he : e = x ∨ H e = some (.own x)) (k : ∀ b u, b ≠ e → h.get? b = some u → h'.get? b = some u) (heo : ∃ u, h'.get? e = some u)
    (new : ObjOk P w (upd H x o') h' x o') : HOk P w (upd H x o') h' := fun b u q => by
  have nown : ∀ c y, H c = some (.own y) → c ≠ x := fun c y r z => by subst z; rw [r] at mu; exact mu
  have ntup : ∀ c xs, H c = some (.tup xs) → c ≠ x := fun c xs r z => by subst z; rw [r] at mu; exact mu
  by_cases hb : b = x
  · subst hb; rw [upd_same] at q; cases q; exact new
  · rw [upd_ne hb] at q
    by_cases hbe : b = e
    · have q' : H b = some (.own x) := by
        rcases he with z | z
        · exact absurd (hbe.trans z) hb
        · rw [hbe]; exact z
      rw [q] at q'; cases q'
      obtain ⟨v, hv⟩ := heo
      exact ⟨v, by rw [hbe]; exact hv⟩
    · refine (ok b u q).stay (fun c v hc r => k c v ?_ r) (fun c r => by rw [upd_ne (nown c b r)]; exact r) fun c xs r => by rw [upd_ne (ntup c xs r)]; exact r
      rcases hc with rfl | hc
      · exact hbe
      · rintro rfl
        rcases he with z | z
        · exact nown c b hc z
        · rw [hc] at z; cases z; exact hb rfl
end

structure Un (fs ex : List Addr) (H H' : Hp) (h h' : Heap) : Prop where
  keep : ∀ b o, h.get? b = some o → H b = none → b ∉ fs → b ∉ ex → h'.get? b = some o
  slot : ∀ b o, h.get? b = some o → H b = none → b ∈ fs → b ∉ ex → ∃ sl, h'.get? b = some { o with slots := sl }
  free : ∀ b o, h.get? b = some o → H b = none → b ∉ ex → H' b = none
  there : ∀ b o, h.get? b = some o → b ∉ ex → ∃ o', h'.get? b = some o'
  tups : ∀ b xs, H b = some (.tup xs) → H' b = some (.tup xs)
  frzs : ∀ b o u, H b = some (.frz o u) → H' b = some (.frz o u)
  tbls : ∀ b ps, H b = some (.tbl ps) → ∃ more, H' b = some (.tbl (ps ++ more))
section
variable {fs fs' ex ex' : List Addr} {H H1 H2 : Hp} {h h1 h2 h' : Heap} {a x e : Addr} {o : HO}
theorem Un.any (u : Un fs ex H H1 h h1) {b : Addr} {ob : Obj} (q : h.get? b = some ob) (n : H b = none) (hx : b ∉ ex) : ∃ sl, h1.get? b = some { ob with slots := sl } := by
  by_cases hb : b ∈ fs
  · exact u.slot b ob q n hb hx
  · exact ⟨ob.slots, u.keep b ob q n hb hx⟩
theorem Un.trans (a : Un fs ex H H1 h h1) (b : Un fs ex H1 H2 h1 h2) : Un fs ex H H2 h h2 where
  keep := fun c ob q n hc hx => b.keep c ob (a.keep c ob q n hc hx) (a.free c ob q n hx) hc hx
  slot := fun c ob q n hc hx => by
    obtain ⟨sl, e1⟩ := a.slot c ob q n hc hx
    obtain ⟨sl', e2⟩ := b.slot c _ e1 (a.free c ob q n hx) hc hx
    exact ⟨sl', e2⟩
  free := fun c ob q n hx => by
    obtain ⟨o', e1⟩ := a.there c ob q hx
    exact b.free c o' e1 (a.free c ob q n hx) hx
  there := fun c ob q hx => by
    obtain ⟨o', e1⟩ := a.there c ob q hx
    exact b.there c o' e1 hx
  tups := fun c xs q => b.tups c xs (a.tups c xs q)
  frzs := fun c ob xs q => b.frzs c ob xs (a.frzs c ob xs q)
  tbls := fun c ps q => by
    obtain ⟨m1, e1⟩ := a.tbls c ps q
    obtain ⟨m2, e2⟩ := b.tbls c _ e1
    exact ⟨m1 ++ m2, by rw [e2, Array.append_assoc]⟩
theorem Un.kept (k : ∀ b u, h.get? b = some u → h'.get? b = some u) : Un fs ex H H h h' :=
  ⟨fun b ob q _ _ _ => k b ob q, fun b ob q _ _ _ => ⟨ob.slots, k b ob q⟩, fun _ _ _ n _ => n, fun b ob q _ => ⟨ob, k b ob q⟩, fun _ _ q => q, fun _ _ _ q => q, fun _ ps q => ⟨#[], by rw [q]; simp⟩⟩
theorem Un.refl : Un fs ex H H h h := Un.kept fun _ _ q => q
theorem Un.laid (k : ∀ b u, h.get? b = some u → h'.get? b = some u) (hp : h.objs.size ≤ a) (hn : H a = none) : Un fs ex H (upd H a o) h h' where
  keep := fun b u q _ _ _ => k b u q
  slot := fun b u q _ _ _ => ⟨u.slots, k b u q⟩
  free := fun b u q n _ => by rw [upd_ne (Nat.ne_of_lt (Nat.lt_of_lt_of_le (Heap.lt_size q) hp))]; exact n
  there := fun b u q _ => ⟨u, k b u q⟩
  tups := fun b xs q => by rw [upd_ne (ne_of_none q hn)]; exact q
  frzs := fun b u xs q => by rw [upd_ne (ne_of_none q hn)]; exact q
  tbls := fun b ps q => ⟨#[], by rw [upd_ne (ne_of_none q hn), q]; simp⟩
theorem Un.write (mu : Mut (H x)) (he : e = x ∨ H e = some (.own x)) (k : ∀ b u, b ≠ e → h.get? b = some u → h'.get? b = some u) (heo : ∃ u, h'.get? e = some u) : Un fs ex H (upd H x o) h h' := by
  have hx : ∀ b, H b = none → b ≠ x := fun b n z => by subst z; rw [n] at mu; exact mu
  have hb : ∀ b, H b = none → b ≠ e := fun b n z => by
    subst z
    rcases he with r | r
    · exact hx b n r
    · rw [n] at r; cases r
  have hm : ∀ b u, H b = some u → ¬ Mut (some u) → b ≠ x := fun b u q nm z => by subst z; rw [q] at mu; exact nm mu
  refine ⟨fun b u q n _ _ => k b u (hb b n) q, fun b u q n _ _ => ⟨u.slots, k b u (hb b n) q⟩, fun b u q n _ => by rw [upd_ne (hx b n)]; exact n, fun b u q _ => ?_,
    fun b xs q => by rw [upd_ne (hm b _ q fun z => z)]; exact q, fun b u xs q => by rw [upd_ne (hm b _ q fun z => z)]; exact q, fun b ps q => ⟨#[], by rw [upd_ne (hm b _ q fun z => z), q]; simp⟩⟩
  by_cases hbe : b = e
  · subst hbe; exact heo
  · exact ⟨u, k b u hbe q⟩
theorem Un.mono (u : Un fs ex H H1 h h1) (hs : ∀ b ∈ fs, b ∈ fs') (hx : ∀ b ∈ ex, b ∈ ex') : Un fs' ex' H H1 h h1 :=
  ⟨fun b ob q n hb he => u.keep b ob q n (fun z => hb (hs b z)) fun z => he (hx b z), fun _ _ q n _ he => u.any q n fun z => he (hx _ z), fun b ob q n he => u.free b ob q n fun z => he (hx b z), fun b ob q he => u.there b ob q fun z => he (hx b z), u.tups, u.frzs, u.tbls⟩
end

noncomputable def trk (h : Heap) (H : Hp) : List Addr := (List.range h.objs.size).filter fun a => (H a).isSome
noncomputable def hidT (h : Heap) (H : Hp) : Heap := PySem.W.hideAll h (trk h H)
theorem hidT_size (h : Heap) (H : Hp) : (hidT h H).objs.size = h.objs.size := PySem.W.hideAll_size _ _
theorem hidT_get {h : Heap} {H : Hp} {b : Addr} {o : Obj} (e : h.get? b = some o) (n : H b = none) : (hidT h H).get? b = some o :=
  PySem.W.hideAll_get _ e fun hm => by
    have q : (H b).isSome = true := (List.mem_filter.mp hm).2
    rw [n] at q; simp at q
theorem of_hidT {h : Heap} {H : Hp} {b : Addr} {o : Obj} (e : (hidT h H).get? b = some o) : h.get? b = some o ∧ H b = none := by
  have e' : h.get? b = some o := PySem.W.of_hideAll (trk h H) e
  refine ⟨e', ?_⟩
  cases q : H b with
  | none => rfl
  | some x =>
    have hm : b ∈ trk h H := List.mem_filter.mpr ⟨List.mem_range.mpr (Heap.lt_size e'), by simp [q]⟩
    have z : (hidT h H).get? b = none := PySem.W.hideAll_none (trk h H) hm
    rw [z] at e; cases e

noncomputable def allNews (g h : Heap) (L : Addr) : List (Addr × Obj) := (List.range h.objs.size).filterMap fun a => if a = L ∨ (g.get? a).isSome = true then none else (h.get? a).map fun o => (a, o)
noncomputable def rest (g h : Heap) (L d : Addr) : List (Addr × Obj) := (allNews g h L).filter fun p => decide (p.1 ≠ d)
end L2

namespace L2
open PySem PySem.Spec PyProof.Rows

structure Mod (K : PySem.W.Frag) (mg : Str → Option Value) (base : Heap) : Prop where
  kin : K.In base
  glob : base.Ns mainGlobals mg
  blt : ∃ mb, base.Ns builtinsNs mb ∧ ∀ x : Str, x ≠ "__name__" → mb x = bootBuiltins x
  nolimit : base.NoLimit

structure Cx where
  prog : Program
  w : World
  K : PySem.W.Frag
  mg : Str → Option Value
  base : Heap
  A : Around
  N : List Str
  s₀ : Shared
  H₀ : Hp
  env : Env
  outer : List Env
  stack : List Env
  ex : List Addr
  fn : Str → Bool
  calm : Bool
  pn : List (Addr × Obj)
  xe : Value → Shared → Prop
noncomputable def frs (l : List Env) : List Addr := l.filterMap (·.frame)
noncomputable abbrev Cx.fs (X : Cx) : List Addr := frs X.outer

noncomputable def Vis (sc : Scope) (x : Str) : Prop := sc.names.lookup x = some .local ∨ sc.names.lookup x = some .cell ∨ sc.names.lookup x = some .free
noncomputable def Loc (sc : Scope) (x : Str) : Prop := sc.names.lookup x = some .local ∨ sc.names.lookup x = some .cell
noncomputable def Look (env : Env) (h : Heap) (m : Str → Option Value) (x : Str) (u : Value) : Prop :=
  (env.kindOf x = some .local ∧ m x = some u) ∨ ((env.kindOf x = some .cell ∨ env.kindOf x = some .free) ∧ ∃ c, env.cells.lookup x = some c ∧ h.IsCell c (some u))

structure Cx.Ok (X : Cx) : Prop where
  mod : Mod X.K X.mg X.base
  kind : X.env.scope.kind = .function
  glob : X.env.globals = mainGlobals
  blt : X.env.builtins = builtinsNs
  above : X.s₀.heap.objs.size ≤ X.env.locals
  inj : ∀ x y c, X.env.cells.lookup x = some c → X.env.cells.lookup y = some c → x = y
  has : ∀ x, (X.env.kindOf x = some .cell ∨ X.env.kindOf x = some .free) → ∃ c, X.env.cells.lookup x = some c
  cab : ∀ x c, X.fn x = true → X.env.cells.lookup x = some c → X.s₀.heap.objs.size ≤ c
  hd : X.calm = true → X.A.handled = none
  frames : X.A.frames = some X.stack
  stk : X.stack = X.outer ∨ (X.stack = X.env :: X.outer ∧ X.env.frame = some X.env.locals)
  exf : ∀ b ∈ X.ex, b ≠ X.env.locals ∧ ∀ x c, X.env.cells.lookup x = some c → c ≠ b
  bs : ∀ b o, X.base.get? b = some o → X.s₀.heap.get? b = some o ∧ X.H₀ b = none
  bsz : X.base.objs.size ≤ X.s₀.heap.objs.size
  noex : ∀ b o, X.base.get? b = some o → b ∉ X.ex
  exfs : ∀ b ∈ X.ex, b ∉ X.fs
  funs : X.s₀.heap.FunFrames X.base X.outer
  frf : ∀ b ∈ X.fs, X.H₀ b = none

structure Inv (X : Cx) (pins : List (Addr × Obj)) (σ : List (Option V)) (H : Hp) (s : Shared) : Prop where
  ok : X.Ok
  os : s.os = X.s₀.os
  bare : AllBare s.gens
  base : Un X.fs X.ex X.H₀ H X.s₀.heap s.heap
  loc : ∃ m, s.heap.Ns X.env.locals m ∧ ∀ (i : Nat) (x : Str) (v : V), X.N[i]? = some x → σ[i]? = some (some v) → Vis X.env.scope x → ∃ u, RelV v u ∧ Look X.env s.heap m x u
  cell : ∀ x c, X.env.cells.lookup x = some c → ∃ v, s.heap.IsCell c v
  free : H X.env.locals = none
  freeC : ∀ x c, X.env.cells.lookup x = some c → H c = none
  pin : ∀ p ∈ X.pn ++ pins, s.heap.get? p.1 = some p.2 ∧ H p.1 = none ∧ p.1 ≠ X.env.locals ∧ p.1 ∉ X.fs ∧ ∀ v, p.2.data ≠ .cell v
  hok : HOk X.prog X.w H s.heap
  len : σ.length = X.N.length

section
variable {X : Cx} {pins : List (Addr × Obj)} {σ : List (Option V)} {H H' : Hp} {s : Shared} {h' : Heap}

theorem Cx.Ok.nofr (ok : X.Ok) {b : Addr} {o : Obj} (e : X.base.get? b = some o) : b ∉ X.fs := fun hb => by
  have := (ok.funs.mem hb).1
  rw [e] at this; cases this
theorem Inv.bs (I : Inv X pins σ H s) : ∀ b o, X.base.get? b = some o → s.heap.get? b = some o ∧ H b = none := fun b o e =>
  ⟨I.base.keep b o (I.ok.bs b o e).1 (I.ok.bs b o e).2 (I.ok.nofr e) (I.ok.noex b o e), I.base.free b o (I.ok.bs b o e).1 (I.ok.bs b o e).2 (I.ok.noex b o e)⟩
theorem Inv.bk (I : Inv X pins σ H s) : ∀ b o, X.base.get? b = some o → s.heap.get? b = some o := fun b o e => (I.bs b o e).1
theorem Inv.mod (I : Inv X pins σ H s) : Mod X.K X.mg X.base := I.ok.mod
theorem Inv.kIn (I : Inv X pins σ H s) : X.K.In s.heap := I.ok.mod.kin.keeps I.bk
theorem Inv.nolimit (I : Inv X pins σ H s) : s.heap.NoLimit := I.ok.mod.nolimit.keeps I.bk
theorem Inv.fr (I : Inv X pins σ H s) : ∃ m, Fr X.base X.env.locals s.heap m :=
  let ⟨m, hn, _⟩ := I.loc
  ⟨m, hn, I.bk, Nat.le_trans I.ok.bsz I.ok.above⟩
theorem Inv.lt (I : Inv X pins σ H s) : X.env.locals < s.heap.objs.size := let ⟨_, hn, _⟩ := I.loc; hn.lt
theorem Inv.sz (I : Inv X pins σ H s) : X.s₀.heap.objs.size ≤ s.heap.objs.size := Nat.le_trans I.ok.above (Nat.le_of_lt I.lt)
theorem Inv.nofs (I : Inv X pins σ H s) {a : Addr} (h : s.heap.objs.size ≤ a) : a ∉ X.fs := fun hb => by
  refine L2.put_away fun G'129x1 h'129x1 => ?_
  obtain ⟨_, o, ho, _⟩ := I.ok.funs.mem hb
  refine h'129x1 ?_
  exact absurd (Nat.lt_of_lt_of_le (Heap.lt_size ho) (Nat.le_trans I.sz h)) (Nat.lt_irrefl _)
theorem Inv.cne (I : Inv X pins σ H s) : ∀ x c, X.env.cells.lookup x = some c → c ≠ X.env.locals := fun x c e z => by
  refine L2.put_away fun G'130x1 h'130x1 => ?_
  obtain ⟨v, o, ho, hd⟩ := I.cell x c e
  refine h'130x1 ?_
  refine L2.put_away fun G'130x2 h'130x2 => ?_
  obtain ⟨m, ⟨o', es, ep, ho', hd', _⟩, _⟩ := I.loc
  refine h'130x2 ?_
  rw [z, ho'] at ho; cases ho; rw [hd'] at hd; cases hd
theorem Inv.funs (I : Inv X pins σ H s) : s.heap.FunFrames X.base X.outer := by
  have all : ∀ (l : List Env), (∀ b ∈ frs l, b ∈ X.fs) → X.s₀.heap.FunFrames X.base l → s.heap.FunFrames X.base l := by
    intro l
    induction l with
    | nil => intro _ _; trivial
    | cons env r ih =>
      intro hs hl
      refine L2.put_away fun G'131x7 h'131x7 => ?_
      obtain ⟨hk, ⟨L, o, hf, hn, ho, hd⟩, hr⟩ := hl
      refine h'131x7 ?_
      have hL : L ∈ X.fs := hs L (by unfold frs; rw [List.filterMap_cons, hf]; exact List.mem_cons_self)
      obtain ⟨sl, e⟩ := I.base.slot L o ho (I.ok.frf L hL) hL fun z => I.ok.exfs L z hL
      exact ⟨hk, ⟨L, _, hf, hn, e, hd⟩, ih (fun b hb => hs b (by unfold frs; rw [List.filterMap_cons, hf]; exact List.mem_cons_of_mem _ hb)) hr⟩
  exact all X.outer (fun _ hb => hb) I.ok.funs

theorem Inv.stack (I : Inv X pins σ H s) : s.heap.FunFrames X.base X.stack := by
  rcases I.ok.stk with e | ⟨e, hf⟩
  · rw [e]; exact I.funs
  · rw [e]
    refine L2.put_away fun G'132x4 h'132x4 => ?_
    obtain ⟨m, hn, _⟩ := I.loc
    refine h'132x4 ?_
    refine .cons (by rw [I.ok.kind]; decide) hf hn ?_ I.funs
    exact Heap.get?_none_of_le (Nat.le_trans I.ok.bsz I.ok.above)
theorem Inv.stkSub (I : Inv X pins σ H s) : ∀ b ∈ frs X.stack, b ∈ X.env.locals :: X.fs := fun b hb => by
  rcases I.ok.stk with e | ⟨e, hf⟩
  · rw [e] at hb; exact List.mem_cons_of_mem _ hb
  · rw [e] at hb
    unfold frs at hb
    rw [List.filterMap_cons, hf] at hb
    exact hb
theorem Inv.stkFree (I : Inv X pins σ H s) : ∀ b ∈ frs X.stack, H b = none := fun b hb => by
  rcases List.mem_cons.mp (I.stkSub b hb) with e | hb
  · rw [e]; exact I.free
  · refine L2.put_away fun G'134x3 h'134x3 => ?_
    obtain ⟨_, o, ho, _⟩ := I.ok.funs.mem hb
    refine h'134x3 ?_
    exact I.base.free b o ho (I.ok.frf b hb) fun z => I.ok.exfs b z hb

theorem Inv.step {g' : Array GenState} {t' : Nat} {d' : Drawn} {ch : List Addr} (I : Inv X pins σ H s)
    (hch : ∀ b ∈ ch, (b ∈ X.ex ∨ X.s₀.heap.objs.size ≤ b) ∧ b ≠ X.env.locals ∧ (∀ x c, X.env.cells.lookup x = some c → c ≠ b) ∧ ∀ p ∈ X.pn ++ pins, p.1 ≠ b)
    (keep : ∀ b o, b ≠ X.env.locals → b ∉ X.fs → b ∉ ch → s.heap.get? b = some o → H b = none → h'.get? b = some o)
    (slot : ∀ b o, b ≠ X.env.locals → b ∈ X.fs → b ∉ ch → s.heap.get? b = some o → H b = none → ∃ sl, h'.get? b = some { o with slots := sl }) (free : ∀ b o, b ∉ ch → s.heap.get? b = some o → H b = none → H' b = none)
    (there : ∀ b o, b ∉ ch → s.heap.get? b = some o → ∃ o', h'.get? b = some o')
    (tups : ∀ b xs, H b = some (.tup xs) → H' b = some (.tup xs)) (frzs : ∀ b o u, H b = some (.frz o u) → H' b = some (.frz o u)) (tbls : ∀ b ps, H b = some (.tbl ps) → ∃ more, H' b = some (.tbl (ps ++ more)))
    (ns : ∀ m, s.heap.Ns X.env.locals m → h'.Ns X.env.locals m) (hok : HOk X.prog X.w H' h') (hg : AllBare g') :
    Inv X pins σ H' { s with heap := h', gens := g', drawn := d', toks := t' } := by
  have neL : ∀ b o, X.s₀.heap.get? b = some o → b ≠ X.env.locals := fun b o e => Nat.ne_of_lt (Nat.lt_of_lt_of_le (Heap.lt_size e) I.ok.above)
  have neC : ∀ b o, X.s₀.heap.get? b = some o → b ∉ X.ex → b ∉ ch := fun b o e hx hb => by
    rcases (hch b hb).1 with z | z
    · exact hx z
    · exact absurd (Nat.lt_of_lt_of_le (Heap.lt_size e) z) (Nat.lt_irrefl _)
  have cellK : ∀ x c, X.env.cells.lookup x = some c → ∀ v, s.heap.IsCell c v → h'.IsCell c v := fun x c e v ⟨o, ho, hd⟩ => by
    have nch : c ∉ ch := fun z => (hch c z).2.2.1 x c e rfl
    by_cases hc : c ∈ X.fs
    · obtain ⟨sl, q⟩ := slot c o (I.cne x c e) hc nch ho (I.freeC x c e)
      exact ⟨_, q, hd⟩
    · exact ⟨o, keep c o (I.cne x c e) hc nch ho (I.freeC x c e), hd⟩
  refine ⟨I.ok, I.os, hg, ⟨fun b o e n hb hx => ?_, fun b o e n hb hx => ?_, fun b o e n hx => ?_, fun b o e hx => ?_, fun b xs e => tups b xs (I.base.tups b xs e), fun b o xs e => frzs b o xs (I.base.frzs b o xs e), fun b ps e => ?_⟩, ?_, fun x c e => ?_, ?_, fun x c e => ?_, fun p hp => ?_, hok, I.len⟩
  · exact keep b o (neL b o e) hb (neC b o e hx) (I.base.keep b o e n hb hx) (I.base.free b o e n hx)
  · obtain ⟨sl, e1⟩ := I.base.slot b o e n hb hx
    obtain ⟨sl', e2⟩ := slot b _ (neL b o e) hb (neC b o e hx) e1 (I.base.free b o e n hx)
    exact ⟨sl', e2⟩
  · obtain ⟨o', e1⟩ := I.base.there b o e hx
    exact free b o' (neC b o e hx) e1 (I.base.free b o e n hx)
  · obtain ⟨o', e1⟩ := I.base.there b o e hx
    exact there b o' (neC b o e hx) e1
  · obtain ⟨m1, e1⟩ := I.base.tbls b ps e
    obtain ⟨m2, e2⟩ := tbls b _ e1
    exact ⟨m1 ++ m2, by rw [e2, Array.append_assoc]⟩
  · refine L2.put_away fun G'135x31 h'135x31 => ?_
    obtain ⟨m, hn, hl⟩ := I.loc
    refine h'135x31 ?_
    refine ⟨m, ns m hn, fun i x v e1 e2 e3 => ?_⟩
    refine L2.put_away fun G'135x33 h'135x33 => ?_
    obtain ⟨u, r, l⟩ := hl i x v e1 e2 e3
    refine h'135x33 ?_
    refine ⟨u, r, ?_⟩
    rcases l with l | ⟨k, c, e, z⟩
    · exact .inl l
    · exact .inr ⟨k, c, e, cellK x c e _ z⟩
  · obtain ⟨v, z⟩ := I.cell x c e
    exact ⟨v, cellK x c e v z⟩
  · refine L2.put_away fun G'135x40 h'135x40 => ?_
    obtain ⟨m, ⟨o, _, _, ho, _⟩, _⟩ := I.loc
    refine h'135x40 ?_
    exact free _ o (fun z => (hch _ z).2.1 rfl) ho I.free
  · refine L2.put_away fun G'135x42 h'135x42 => ?_
    obtain ⟨v, o, ho, hd⟩ := I.cell x c e
    refine h'135x42 ?_
    exact free c o (fun z => (hch c z).2.2.1 x c e rfl) ho (I.freeC x c e)
  · refine L2.put_away fun G'135x44 h'135x44 => ?_
    obtain ⟨e, n, ne, nf, d⟩ := I.pin p hp
    refine h'135x44 ?_
    have nch : p.1 ∉ ch := fun z => (hch p.1 z).2.2.2 p hp rfl
    exact ⟨keep p.1 p.2 ne nf nch e n, free p.1 p.2 nch e n, ne, nf, d⟩
theorem Inv.un {t' : Nat} (I : Inv X pins σ H s) (u : Un X.fs [] H H' s.heap h') (hok : HOk X.prog X.w H' h') : Inv X pins σ H' { s with heap := h', toks := t' } := by
  refine L2.put_away fun G'136x1 h'136x1 => ?_
  obtain ⟨m, ⟨o, es, ep, ho, r⟩, _⟩ := id I.loc
  refine h'136x1 ?_
  obtain ⟨sl, hL⟩ := u.any ho I.free (by simp)
  exact I.step (g' := s.gens) (d' := s.drawn) (ch := []) (fun _ z => nomatch z) (fun b o _ hb _ e n => u.keep b o e n hb (by simp)) (fun b o _ hb _ e n => u.slot b o e n hb (by simp)) (fun b o _ e n => u.free b o e n (by simp)) (fun b o _ e => u.there b o e (by simp)) u.tups u.frzs u.tbls (fun m' hm => by
    refine L2.put_away fun G'136x4 h'136x4 => ?_
    obtain ⟨o', es', ep', ho', r'⟩ := hm
    refine h'136x4 ?_
    rw [ho] at ho'; cases ho'
    exact ⟨_, es', ep', hL, r'⟩) hok I.bare
theorem Inv.call {g' : Array GenState} {t' : Nat} {d' : Drawn} {ch : List Addr} (I : Inv X pins σ H s) (u : Un (frs X.stack) ch H H' s.heap h') (hok : HOk X.prog X.w H' h') (hg : AllBare g')
    (hch : ∀ b ∈ ch, (b ∈ X.ex ∨ X.s₀.heap.objs.size ≤ b) ∧ b ≠ X.env.locals ∧ (∀ x c, X.env.cells.lookup x = some c → c ≠ b) ∧ ∀ p ∈ X.pn ++ pins, p.1 ≠ b) :
    Inv X pins σ H' { s with heap := h', gens := g', drawn := d', toks := t' } := by
  refine L2.put_away fun G'137x3 h'137x3 => ?_
  obtain ⟨m, ⟨o, es, ep, ho, r⟩, _⟩ := id I.loc
  refine h'137x3 ?_
  obtain ⟨sl, hL⟩ := u.any ho I.free fun z => (hch _ z).2.1 rfl
  exact I.step (ch := ch) hch (fun b o hL hb hc e n => u.keep b o e n (fun z => (List.mem_cons.mp (I.stkSub b z)).elim hL hb) hc) (fun b o _ _ hc e n => u.any e n hc) (fun b o hc e n => u.free b o e n hc) (fun b o hc e => u.there b o e hc) u.tups u.frzs u.tbls (fun m' hm => by
    refine L2.put_away fun G'137x6 h'137x6 => ?_
    obtain ⟨o', es', ep', ho', r'⟩ := hm
    refine h'137x6 ?_
    rw [ho] at ho'; cases ho'
    exact ⟨_, es', ep', hL, r'⟩) hok hg
theorem Inv.turned {t' : Nat} {it : Addr} (I : Inv X pins σ H s) (k : ∀ b o, b ≠ it → s.heap.get? b = some o → h'.get? b = some o) (hn : H it = none) (hL : it ≠ X.env.locals)
    (h1 : it ∈ X.ex ∨ X.s₀.heap.objs.size ≤ it) (h2 : ∀ x c, X.env.cells.lookup x = some c → c ≠ it) (h3 : ∀ p ∈ X.pn ++ pins, p.1 ≠ it) : Inv X pins σ H { s with heap := h', toks := t' } := by
  have nit : ∀ b u, H b = some u → b ≠ it := fun b u e z => by rw [z, hn] at e; cases e
  refine I.step (g' := s.gens) (d' := s.drawn) (ch := [it]) (fun b hb => ?_) (fun b o _ _ hc e _ => k b o (fun z => hc (by simp [z])) e) (fun b o _ _ hc e _ => ⟨o.slots, k b o (fun z => hc (by simp [z])) e⟩) (fun _ _ _ _ n => n)
    (fun b o hc e => ⟨o, k b o (fun z => hc (by simp [z])) e⟩) (fun _ _ e => e) (fun _ _ _ e => e) (fun b ps e => ⟨#[], by rw [e]; simp⟩) (fun m hm => ?_) (fun b u e => ?_) I.bare
  · have e : b = it := by simpa using hb
    subst e
    exact ⟨h1, hL, h2, h3⟩
  · refine L2.put_away fun G'138x8 h'138x8 => ?_
    obtain ⟨o, es, ep, ho, r⟩ := hm
    refine h'138x8 ?_
    exact ⟨o, es, ep, k _ o (Ne.symm hL) ho, r⟩
  · refine (I.hok b u e).stay (fun c v hc q => k c v ?_ q) (fun _ q => q) fun _ _ q => q
    rcases hc with z | z
    · rw [z]; exact nit b u e
    · exact nit c _ z
theorem Inv.tok (I : Inv X pins σ H s) (t : Nat) : Inv X pins σ H { s with toks := t } := I.un (h' := s.heap) (t' := t) Un.refl I.hok
theorem Inv.kept {t' : Nat} (I : Inv X pins σ H s) (k : ∀ b u, s.heap.get? b = some u → h'.get? b = some u) : Inv X pins σ H { s with heap := h', toks := t' } := I.un (Un.kept k) (I.hok.kept k)
theorem Inv.laid {a : Addr} {o : HO} {t' : Nat} (I : Inv X pins σ H s) (k : ∀ b u, s.heap.get? b = some u → h'.get? b = some u) (hp : s.heap.objs.size ≤ a) (new : ObjOk X.prog X.w (upd H a o) h' a o) :
    Inv X pins σ (upd H a o) { s with heap := h', toks := t' } := I.un (Un.laid k hp (I.hok.fresh hp)) (I.hok.laid k hp new)
theorem Inv.write {x e : Addr} {o : HO} {t' : Nat} (I : Inv X pins σ H s) (mu : Mut (H x)) (he : e = x ∨ H e = some (.own x)) (k : ∀ b u, b ≠ e → s.heap.get? b = some u → h'.get? b = some u) (heo : ∃ u, h'.get? e = some u)
    (new : ObjOk X.prog X.w (upd H x o) h' x o) : Inv X pins σ (upd H x o) { s with heap := h', toks := t' } := I.un (Un.write mu he k heo) (I.hok.write mu he k heo new)
theorem Inv.pins_of {pins' : List (Addr × Obj)} (I : Inv X pins σ H s) (h : ∀ p ∈ pins', s.heap.get? p.1 = some p.2 ∧ H p.1 = none ∧ p.1 ≠ X.env.locals ∧ p.1 ∉ X.fs ∧ ∀ v, p.2.data ≠ .cell v) : Inv X pins' σ H s :=
  ⟨I.ok, I.os, I.bare, I.base, I.loc, I.cell, I.free, I.freeC, fun p hp => (List.mem_append.mp hp).elim (fun z => I.pin p (List.mem_append_left _ z)) (h p), I.hok, I.len⟩

theorem nodup_ix {N : List Str} (hN : N.Nodup) {i j : Nat} {x : Str} (a : N[i]? = some x) (b : N[j]? = some x) : i = j := by
  obtain ⟨h1, e1⟩ := List.getElem?_eq_some_iff.mp a
  obtain ⟨h2, e2⟩ := List.getElem?_eq_some_iff.mp b
  exact (List.getElem_inj hN).mp (e1.trans e2.symm)

theorem store_ok2 {M : Model} {A : Around} {E : Value → Shared → Prop} {i : Nat} {x : Str} {v : V} {u : Value} {Q : Unit → Shared → Prop} (I : Inv X pins σ H s) (hN : X.N.Nodup) (hi : X.N[i]? = some x) (hx : Loc X.env.scope x) (r : RelV v u)
    (h : ∀ s', Inv X pins (σ.set i (some v)) H s' → (∃ a, Heap.SameBut a s.heap s'.heap ∧ (a = X.env.locals ∨ X.env.cells.lookup x = some a)) → Q () s') (hf : X.fn x = true ∨ X.env.scope.names.lookup x = some .local := by first | exact .inl rfl | exact .inr rfl | assumption) : wpAny M A (storeName X.env x u) Q E s := by
  refine L2.put_away fun G'146x2 h'146x2 => ?_
  obtain ⟨m, hn, hl⟩ := id I.loc
  refine h'146x2 ?_
  have hcls : (X.env.scope.kind == .class || (X.env.scope.kind == .module && X.env.locals != X.env.globals)) = false := by rw [I.ok.kind]; rfl
  have hiσ : i < σ.length := by rw [I.len]; exact (List.getElem?_eq_some_iff.mp hi).1
  have cne := I.cne
  have tracked : ∀ {a : Addr} {h' : Heap}, (∃ o, s.heap.get? a = some o ∧ H a = none) → Heap.SameBut a s.heap h' → HOk X.prog X.w H h' := fun {a h'} ha hs b ob e => by
    refine L2.put_away fun G'146x7 h'146x7 => ?_
    obtain ⟨_, _, hfree⟩ := ha
    refine h'146x7 ?_
    refine (I.hok b ob e).stay (fun c w' hc q => (hs.2 c ?_).trans q) (fun _ q => q) fun _ _ q => q
    rintro rfl
    rcases hc with rfl | hc
    · rw [hfree] at e; cases e
    · rw [hfree] at hc; cases hc
  rcases hx with hk | hk
  · refine wpAny_storeName_local hk hn (fun h' hn' hs => ?_) hcls
    refine L2.put_away fun G'146x15 h'146x15 => ?_
    obtain ⟨oL, _, _, hoL, _⟩ := id hn
    refine h'146x15 ?_
    refine h _ ⟨I.ok, I.os, I.bare, ⟨fun b o e n hb hx => ?_, fun b o e n hb hx => ?_, I.base.free, fun b o e hx => ?_, I.base.tups, I.base.frzs, I.base.tbls⟩, ⟨_, hn', fun j y v' e1 e2 e3 => ?_⟩, fun y c e => ?_, I.free, I.freeC, fun p hp => ?_, tracked ⟨oL, hoL, I.free⟩ hs, by simpa using I.len⟩ ⟨_, hs, .inl rfl⟩
    · exact (hs.2 b (Nat.ne_of_lt (Nat.lt_of_lt_of_le (Heap.lt_size e) I.ok.above))).trans (I.base.keep b o e n hb hx)
    · obtain ⟨sl, e1⟩ := I.base.slot b o e n hb hx
      exact ⟨sl, (hs.2 b (Nat.ne_of_lt (Nat.lt_of_lt_of_le (Heap.lt_size e) I.ok.above))).trans e1⟩
    · obtain ⟨o', e1⟩ := I.base.there b o e hx
      exact ⟨o', (hs.2 b (Nat.ne_of_lt (Nat.lt_of_lt_of_le (Heap.lt_size e) I.ok.above))).trans e1⟩
    · by_cases hj : j = i
      · subst hj
        rw [hi] at e1; cases e1
        rw [List.getElem?_set_self hiσ] at e2
        cases e2
        exact ⟨u, r, .inl ⟨hk, by simp⟩⟩
      · rw [List.getElem?_set_ne (Ne.symm hj)] at e2
        refine L2.put_away fun G'146x29 h'146x29 => ?_
        obtain ⟨u', r', q⟩ := hl j y v' e1 e2 e3
        refine h'146x29 ?_
        refine ⟨u', r', ?_⟩
        rcases q with ⟨k, e⟩ | ⟨k, c, e, z⟩
        · refine .inl ⟨k, ?_⟩
          have : y ≠ x := fun e => hj (nodup_ix hN e1 (e ▸ hi))
          simp [this, e]
        · exact .inr ⟨k, c, e, z.sameBut hs (cne y c e)⟩
    · obtain ⟨w', z⟩ := I.cell y c e
      exact ⟨w', z.sameBut hs (cne y c e)⟩
    · refine L2.put_away fun G'146x38 h'146x38 => ?_
      obtain ⟨e, n, ne, nf, d⟩ := I.pin p hp
      refine h'146x38 ?_
      exact ⟨(hs.2 p.1 ne).trans e, n, ne, nf, d⟩
  · have hfn : X.fn x = true := by
      rcases hf with z | z
      · exact z
      · rw [z] at hk; cases hk
    obtain ⟨c, hc⟩ := I.ok.has x (.inl hk)
    obtain ⟨w', z⟩ := I.cell x c hc
    refine wpAny_storeName_cell I.ok.kind hk hc z (fun h' hc' hs => ?_)
    refine L2.put_away fun G'146x47 h'146x47 => ?_
    obtain ⟨oc, hoc, hocd⟩ := id z
    refine h'146x47 ?_
    refine h { s with heap := h' } ⟨I.ok, I.os, I.bare, ⟨fun b o e n hb hx => ?_, fun b o e n hb hx => ?_, I.base.free, fun b o e hx => ?_, I.base.tups, I.base.frzs, I.base.tbls⟩, ⟨m, hn.sameBut hs (Ne.symm (cne x c hc)), fun j y v' e1 e2 e3 => ?_⟩, fun y c' e => ?_, I.free, I.freeC, fun p hp => ?_, tracked ⟨oc, hoc, I.freeC x c hc⟩ hs, by simpa using I.len⟩ ⟨c, hs, .inr hc⟩
    · exact (hs.2 b (Nat.ne_of_lt (Nat.lt_of_lt_of_le (Heap.lt_size e) (I.ok.cab x c hfn hc)))).trans (I.base.keep b o e n hb hx)
    · obtain ⟨sl, e1⟩ := I.base.slot b o e n hb hx
      exact ⟨sl, (hs.2 b (Nat.ne_of_lt (Nat.lt_of_lt_of_le (Heap.lt_size e) (I.ok.cab x c hfn hc)))).trans e1⟩
    · obtain ⟨o', e1⟩ := I.base.there b o e hx
      exact ⟨o', (hs.2 b (Nat.ne_of_lt (Nat.lt_of_lt_of_le (Heap.lt_size e) (I.ok.cab x c hfn hc)))).trans e1⟩
    · by_cases hj : j = i
      · subst hj
        rw [hi] at e1; cases e1
        rw [List.getElem?_set_self hiσ] at e2
        cases e2
        exact ⟨u, r, .inr ⟨.inl hk, c, hc, hc'⟩⟩
      · rw [List.getElem?_set_ne (Ne.symm hj)] at e2
        refine L2.put_away fun G'146x61 h'146x61 => ?_
        obtain ⟨u', r', q⟩ := hl j y v' e1 e2 e3
        refine h'146x61 ?_
        refine ⟨u', r', ?_⟩
        rcases q with q | ⟨k, c', e, z'⟩
        · exact .inl q
        · refine .inr ⟨k, c', e, z'.sameBut hs ?_⟩
          rintro rfl
          exact hj (nodup_ix hN e1 (I.ok.inj _ _ _ e hc ▸ hi))
    · by_cases hcc : c' = c
      · subst hcc; exact ⟨_, hc'⟩
      · obtain ⟨w2, z2⟩ := I.cell y c' e
        exact ⟨w2, z2.sameBut hs hcc⟩
    · refine L2.put_away fun G'146x72 h'146x72 => ?_
      obtain ⟨e, n, ne, nf, d⟩ := I.pin p hp
      refine h'146x72 ?_
      refine ⟨(hs.2 p.1 ?_).trans e, n, ne, nf, d⟩
      intro q
      rw [q, hoc] at e
      have q' : oc = p.2 := Option.some.inj e
      exact d w' (by rw [← q']; exact hocd)
theorem store_ok {M : Model} {A : Around} {E : Value → Shared → Prop} {i : Nat} {x : Str} {v : V} {u : Value} {Q : Unit → Shared → Prop} (I : Inv X pins σ H s) (hN : X.N.Nodup) (hi : X.N[i]? = some x) (hx : Loc X.env.scope x) (r : RelV v u)
    (h : ∀ s', Inv X pins (σ.set i (some v)) H s' → Q () s') (hf : X.fn x = true ∨ X.env.scope.names.lookup x = some .local := by first | exact .inl rfl | exact .inr rfl | assumption) : wpAny M A (storeName X.env x u) Q E s :=
  store_ok2 I hN hi hx r (fun s' I' _ => h s' I') hf
theorem Inv.call' {s' : Shared} {ch : List Addr} (I : Inv X pins σ H s) (ho : s'.os = s.os) (u : Un (frs X.stack) ch H H' s.heap s'.heap) (hok : HOk X.prog X.w H' s'.heap) (hg : AllBare s'.gens)
    (hch : ∀ b ∈ ch, (b ∈ X.ex ∨ X.s₀.heap.objs.size ≤ b) ∧ b ≠ X.env.locals ∧ (∀ x c, X.env.cells.lookup x = some c → c ≠ b) ∧ ∀ p ∈ X.pn ++ pins, p.1 ≠ b) : Inv X pins σ H' s' := by
  refine L2.put_away fun G'148x2 h'148x2 => ?_
  obtain ⟨h', g', d', t', o'⟩ := s'
  refine h'148x2 ?_
  have e : o' = s.os := ho
  subst e
  exact I.call (g' := g') (t' := t') (d' := d') u hok hg hch
end

noncomputable abbrev XK := Value → Option Addr → Hp → Prop
noncomputable abbrev St := List (Option V)
noncomputable abbrev VK := V → Hp → Prop
noncomputable abbrev TE := St → Hp → VK → Prop
noncomputable abbrev TT := St → Hp → (Bool → Hp → Prop) → Prop
noncomputable abbrev TA := St → Hp → (List V → Hp → Prop) → Prop
structure Ends where
  nx : St → Hp → Prop
  rt : VK
  bk : St → Hp → Prop := fun _ _ => False
  ct : St → Hp → Prop := fun _ _ => False
noncomputable abbrev TS := Ends → St → Hp → Prop

noncomputable def EP (X : Cx) (pins : List (Addr × Obj)) (σ : St) (Q : VK) (u : Value) (s' : Shared) : Prop := ∃ v H', Inv X pins σ H' s' ∧ RelV v u ∧ Q v H'
noncomputable def TP (X : Cx) (pins : List (Addr × Obj)) (σ : St) (Q : Bool → Hp → Prop) (b : Bool) (s' : Shared) : Prop := ∃ H', Inv X pins σ H' s' ∧ Q b H'
noncomputable def AP (X : Cx) (pins : List (Addr × Obj)) (σ : St) (Q : List V → Hp → Prop) (us : List Value) (s' : Shared) : Prop := ∃ vs H', Inv X pins σ H' s' ∧ Vals vs us ∧ Q vs H'
noncomputable def SP (X : Cx) (pins : List (Addr × Obj)) (D : Ends) (f : Flow) (s' : Shared) : Prop :=
  match f with
  | .next => ∃ σ' H', Inv X pins σ' H' s' ∧ D.nx σ' H'
  | .brk => ∃ σ' H', Inv X pins σ' H' s' ∧ D.bk σ' H'
  | .cont => ∃ σ' H', Inv X pins σ' H' s' ∧ D.ct σ' H'
  | .ret u => ∃ v σ' H', Inv X pins σ' H' s' ∧ RelV v u ∧ D.rt v H'

noncomputable def PE (X : Cx) (e : Expr) (t : TE) : Prop :=
  ∀ (pins : List (Addr × Obj)) (s : Shared) (σ : St) (H : Hp) (Q : VK), Inv X pins σ H s → t σ H Q → wpAny (model X.prog X.w) X.A (eval e X.env) (EP X pins σ Q) X.xe s
noncomputable def PT (X : Cx) (e : Expr) (t : TT) : Prop :=
  ∀ (pins : List (Addr × Obj)) (s : Shared) (σ : St) (H : Hp) (Q : Bool → Hp → Prop), Inv X pins σ H s → t σ H Q → wpAny (model X.prog X.w) X.A (isTrue e X.env (eval e X.env)) (TP X pins σ Q) X.xe s
noncomputable def PW (X : Cx) (e : Expr) (t : TT) : Prop :=
  ∀ (whole : Sem Value) (pins : List (Addr × Obj)) (s : Shared) (σ : St) (H : Hp) (Q : Bool → Hp → Prop), Inv X pins σ H s → t σ H Q → wpAny (model X.prog X.w) X.A (isTrue e X.env whole) (TP X pins σ Q) X.xe s
theorem PW.pt {X : Cx} {e : Expr} {t : TT} (h : PW X e t) : PT X e t := h _
noncomputable def PA (X : Cx) (es : List Expr) (t : TA) : Prop :=
  ∀ (pos : Pos) (pins : List (Addr × Obj)) (s : Shared) (σ : St) (H : Hp) (Q : List V → Hp → Prop), Inv X pins σ H s → t σ H Q → wpAny (model X.prog X.w) X.A (spliced (backTo pos (starEach es X.env))) (AP X pins σ Q) X.xe s
noncomputable def PS (X : Cx) (st : Stmt) (t : TS) : Prop :=
  ∀ (pins : List (Addr × Obj)) (s : Shared) (σ : St) (H : Hp) (D : Ends), Inv X pins σ H s → t D σ H → wpAny (model X.prog X.w) X.A (exec st X.env) (SP X pins D) X.xe s
noncomputable def PSs (X : Cx) (st : List Stmt) (t : TS) : Prop :=
  ∀ (pins : List (Addr × Obj)) (s : Shared) (σ : St) (H : Hp) (D : Ends), Inv X pins σ H s → t D σ H → wpAny (model X.prog X.w) X.A (execs st X.env) (SP X pins D) X.xe s
theorem thn {α : Type} {t : Sem α} {Q Q' : α → Shared → Prop} {M : Model} {A : Around} {E : Value → Shared → Prop} {s : Shared} (h : wpAny M A t Q E s) (hQ : ∀ a s, Q a s → Q' a s) : wpAny M A t Q' E s := wpAny_mono h hQ fun _ _ x => x
end L2

namespace L2
open PySem PySem.Spec PyProof.Rows
section
variable {X : Cx}

noncomputable def tVar (i : Nat) : TE := fun σ H Q => ∃ v, σ[i]? = some (some v) ∧ Q v H
noncomputable def tC (v : V) : TE := fun _ H Q => Q v H
theorem pe_var {i : Nat} {x : Str} {pos : Pos} (hN : X.N[i]? = some x) (hv : Vis X.env.scope x) (hd : (x == ("__debug__" : Str)) = false := by decide) (hcd : (x == ("__classdict__" : Str)) = false := by decide) : PE X (.Name x pos) (tVar i) := by
  intro pins s σ H Q I h
  refine L2.put_away fun G'180x2 h'180x2 => ?_
  obtain ⟨v, e, h⟩ := h
  refine h'180x2 ?_
  refine L2.put_away fun G'180x3 h'180x3 => ?_
  obtain ⟨m, hn, hl⟩ := I.loc
  refine h'180x3 ?_
  refine L2.put_away fun G'180x4 h'180x4 => ?_
  obtain ⟨u, r, l⟩ := hl i x v hN e hv
  refine h'180x4 ?_
  have fin : EP X pins σ Q u s := ⟨v, H, I, r, h⟩
  rcases l with ⟨hk, hm⟩ | ⟨hk, c, hc, hcell⟩
  · exact wpAny_Name (wpAny_loadName_local I.ok.kind hk hn hm fin) hd
  · rcases hk with hk | hk
    · exact wpAny_Name (wpAny_loadName_cell I.ok.kind hk hc hcell fin) hd
    · exact wpAny_Name (wpAny_loadName_free I.ok.kind hk hc hcell fin hcd) hd
theorem pe_int {i j pos} : PE X (.Constant (.int i) j pos) (tC (.int i)) := fun _ _ _ H _ I h => wpAny_Constant_int ⟨.int i, H, I.tok _, ⟨_, rfl⟩, h⟩
theorem pe_bl {b j pos} : PE X (.Constant (.bool b) j pos) (tC (.bl b)) := fun _ _ _ H _ I h => Constant_bool ⟨.bl b, H, I, rfl, h⟩
theorem pe_non {j pos} : PE X (.Constant .none j pos) (tC .non) := fun _ _ _ H _ I h => Constant_none ⟨.non, H, I, rfl, h⟩
theorem pe_str {x j pos} : PE X (.Constant (.str x) j pos) (tC (.str x)) := fun _ _ _ H _ I h => Calls.Constant_str ⟨.str x, H, I.tok _, ⟨_, rfl⟩, h⟩

noncomputable def Gl (X : Cx) (x : Str) : Prop := X.env.kindOf x = some .globalImplicit
theorem ld_glob {E : Value → Shared → Prop} {pins : List (Addr × Obj)} {s : Shared} {σ : St} {H : Hp} {x : Str} {u : Value} {pos : Pos} {Q : Value → Shared → Prop} (I : Inv X pins σ H s) (hg : Gl X x) (hm : X.mg x = some u) (h : Q u s)
    (hd : (x == ("__debug__" : Str)) = false := by decide) : wpAny (model X.prog X.w) X.A (eval (.Name x pos) X.env) Q E s :=
  Calls.Name_function_global I.ok.kind hg (Calls.loadGlobal_global (by rw [I.ok.glob]; exact I.mod.glob.keeps I.bk) hm h) hd
theorem ld_blt {E : Value → Shared → Prop} {pins : List (Addr × Obj)} {s : Shared} {σ : St} {H : Hp} {x : Str} {u : Value} {pos : Pos} {Q : Value → Shared → Prop} (I : Inv X pins σ H s) (hg : Gl X x) (hm : X.mg x = none) (hv : bootBuiltins x = some u) (h : Q u s)
    (hn : x ≠ "__name__" := by decide) (hd : (x == ("__debug__" : Str)) = false := by decide) : wpAny (model X.prog X.w) X.A (eval (.Name x pos) X.env) Q E s := by
  refine L2.put_away fun G'187x2 h'187x2 => ?_
  obtain ⟨mb, h1, h2⟩ := I.mod.blt
  refine h'187x2 ?_
  exact Calls.Name_function_global I.ok.kind hg (Calls.loadGlobal_builtin (by rw [I.ok.glob]; exact I.mod.glob.keeps I.bk) hm (by rw [I.ok.blt]; exact h1.keeps I.bk) ((h2 x hn).trans hv) h) hd
theorem pe_glob {x : Str} {v : V} {u : Value} {pos : Pos} (hg : Gl X x) (hm : X.mg x = some u) (r : RelV v u) (hd : (x == ("__debug__" : Str)) = false := by decide) : PE X (.Name x pos) (tC v) :=
  fun _ _ _ H _ I h => ld_glob I hg hm ⟨v, H, I, r, h⟩ hd
theorem pe_bltn {x : Str} {v : V} {u : Value} {pos : Pos} (hg : Gl X x) (hm : X.mg x = none) (hv : bootBuiltins x = some u) (r : RelV v u) (hn : x ≠ "__name__" := by decide) (hd : (x == ("__debug__" : Str)) = false := by decide) : PE X (.Name x pos) (tC v) :=
  fun _ _ _ H _ I h => ld_blt I hg hm hv ⟨v, H, I, r, h⟩ hn hd

variable {a b : Expr} {ta tb : TE} {pos : Pos}
noncomputable def tB (t : TE) : TT := fun σ H Q => t σ H fun x H1 => ∃ c, x = .bl c ∧ Q c H1
theorem pt_val {e : Expr} {t : TE} (h : PE X e t) (he : ∀ whole, isTrue e X.env whole = (do let v ← whole; standAt e.pos; holding [v] (truthy v)) := by intro _; rfl) : PT X e (tB t) := by
  intro pins s σ H Q I hw
  refine isTrue_plain (thn (h pins s σ H _ I hw) fun v s1 ⟨x, H1, I1, r1, q1⟩ => ?_) (he _)
  refine L2.put_away fun G'224x3 h'224x3 => ?_
  obtain ⟨d, rfl, q⟩ := q1
  refine h'224x3 ?_
  cases r1
  exact wpAny_truthy_bool ⟨H1, I1, q⟩

variable {tA tB' : TT} {rest : List Expr}
noncomputable def tAnd (t u : TT) : TT := fun σ H Q => t σ H fun c H1 => if c = true then u σ H1 Q else Q false H1
noncomputable def tOr (t u : TT) : TT := fun σ H Q => t σ H fun c H1 => if c = true then Q true H1 else u σ H1 Q
noncomputable def tNot (t : TT) : TT := fun σ H Q => t σ H fun c H1 => Q (!c) H1
theorem pw_and1 (ha : PT X a tA) : PW X (.BoolOp .And [a] pos) tA := by
  intro wh pins s σ H Q I h
  refine isTrue_and (thn (ha pins s σ H Q I h) fun c s1 e => ?_)
  cases c with
  | true => exact isTrue_and_nil e
  | false => exact e
theorem pw_or1 (ha : PT X a tA) : PW X (.BoolOp .Or [a] pos) tA := by
  intro wh pins s σ H Q I h
  refine isTrue_or (thn (ha pins s σ H Q I h) fun c s1 e => ?_)
  cases c with
  | false => exact isTrue_or_nil e
  | true => exact e
theorem pw_and (ha : PT X a tA) (hb : PW X (.BoolOp .And (b :: rest) pos) tB') : PW X (.BoolOp .And (a :: b :: rest) pos) (tAnd tA tB') := by
  intro wh pins s σ H Q I h
  refine isTrue_and (thn (ha pins s σ H _ I h) fun c s1 ⟨H1, I1, q1⟩ => ?_)
  cases c with
  | true => exact hb wh pins s1 σ H1 Q I1 q1
  | false => exact ⟨H1, I1, q1⟩
theorem pw_or (ha : PT X a tA) (hb : PW X (.BoolOp .Or (b :: rest) pos) tB') : PW X (.BoolOp .Or (a :: b :: rest) pos) (tOr tA tB') := by
  intro wh pins s σ H Q I h
  refine isTrue_or (thn (ha pins s σ H _ I h) fun c s1 ⟨H1, I1, q1⟩ => ?_)
  cases c with
  | true => exact ⟨H1, I1, q1⟩
  | false => exact hb wh pins s1 σ H1 Q I1 q1
theorem pt_not (ha : PT X a tA) : PT X (.UnaryOp .Not a pos) (tNot tA) := by
  intro pins s σ H Q I h
  exact isTrue_not (ha pins s σ H (fun c H1 => Q (!c) H1) I h)
noncomputable def tAndV (ta tb : TE) : TE := fun σ H Q => ta σ H fun x H1 => ∃ c, x = .bl c ∧ if c = true then tb σ H1 Q else Q (.bl false) H1
noncomputable def tOrV (ta tb : TE) : TE := fun σ H Q => ta σ H fun x H1 => ∃ c, x = .bl c ∧ if c = true then Q (.bl true) H1 else tb σ H1 Q
noncomputable def tNotV (ta : TE) : TE := fun σ H Q => ta σ H fun x H1 => ∃ c, x = .bl c ∧ Q (.bl (!c)) H1
theorem pe_one {op} {t : TE} (h : PE X a t) : PE X (.BoolOp op [a] pos) t := fun pins s σ H Q I hw => BoolOp_one (h pins s σ H Q I hw)
theorem pe_and (ha : PE X a ta) (hb : PE X (.BoolOp .And (b :: rest) pos) tb) : PE X (.BoolOp .And (a :: b :: rest) pos) (tAndV ta tb) := by
  intro pins s σ H Q I h
  refine BoolOp_and (thn (ha pins s σ H _ I h) fun v s1 ⟨x, H1, I1, r1, q1⟩ => ?_)
  refine L2.put_away fun G'239x3 h'239x3 => ?_
  obtain ⟨c, rfl, q1⟩ := q1
  refine h'239x3 ?_
  cases r1
  refine wpAny_truthy_bool ?_
  cases c with
  | true => exact hb pins s1 σ H1 Q I1 q1
  | false => exact ⟨.bl false, H1, I1, rfl, q1⟩
theorem pe_not (ha : PE X a ta) : PE X (.UnaryOp .Not a pos) (tNotV ta) := by
  intro pins s σ H Q I h
  refine UnaryOp_ (thn (ha pins s σ H _ I h) fun v s1 ⟨x, H1, I1, r1, q1⟩ => ?_)
  refine L2.put_away fun G'241x3 h'241x3 => ?_
  obtain ⟨c, rfl, q1⟩ := q1
  refine h'241x3 ?_
  cases r1
  exact not_of (wpAny_truthy_bool ⟨.bl (!c), H1, I1, rfl, q1⟩)
noncomputable def tIf (t : TT) (ta tb : TE) : TE := fun σ H Q => t σ H fun c H1 => if c = true then ta σ H1 Q else tb σ H1 Q
end
end L2

namespace L2
open PySem PySem.Spec PyProof.Rows

noncomputable def SqL (K : PySem.W.Frag) (H : Hp) (a : Addr) (xs : List V) : Prop :=
  Rd H a (.lst xs) ∨
    ∃ (o : Obj) (its : Array Value) (n : Nat), K.lookup a = some o ∧ o.cls = .type "list" ∧ o.dict = none ∧ o.data = .seq its n ∧ its.size ≤ sizeLine ∧ Vals xs its.toList
noncomputable def SqT (K : PySem.W.Frag) (H : Hp) (a : Addr) (xs : List V) : Prop :=
  Rd H a (.tup xs) ∨
    ∃ (o : Obj) (its : Array Value) (n : Nat), K.lookup a = some o ∧ o.cls = .type "tuple" ∧ o.data = .seq its n ∧ its.size ≤ sizeLine ∧ Vals xs its.toList
noncomputable def absV : Value → Option V
  | .none => some .non
  | .bool b => some (.bl b)
  | .int i _ => some (.int i)
  | .str x _ => some (.str x)
  | .bytes b _ => some (.byt b)
  | .float b _ => some (.flt b)
  | .ref a => some (.ref a)
  | .type n => some (.ty n)
  | _ => none
theorem RelV.abs {x : V} {u : Value} (r : RelV x u) : absV u = some x := by
  cases x with
  | non => cases r; rfl
  | bl _ => cases r; rfl
  | int _ => obtain ⟨t, rfl⟩ := r; rfl
  | str _ => obtain ⟨t, rfl⟩ := r; rfl
  | byt _ => obtain ⟨t, rfl⟩ := r; rfl
  | flt _ => obtain ⟨t, rfl⟩ := r; rfl
  | ref _ => cases r; rfl
  | ty _ => cases r; rfl
theorem RelV.inj {x y : V} {u : Value} (r : RelV x u) (q : RelV y u) : x = y := Option.some.inj (r.abs.symm.trans q.abs)
theorem Vals.inj : ∀ {xs ys : List V} {us : List Value}, Vals xs us → Vals ys us → xs = ys
  | _, _, _, .nil, .nil => rfl
  | _, _, _, .cons r t, .cons r' t' => by rw [r.inj r', Vals.inj t t']
section
variable {X : Cx} {pins : List (Addr × Obj)} {σ : St} {H : Hp} {s : Shared} {a : Addr} {xs ys : List V}
theorem SqL.of {K : PySem.W.Frag} (h : H a = some (.lst xs)) : SqL K H a xs := .inl (.inl h)
theorem SqT.of {K : PySem.W.Frag} (h : H a = some (.tup xs)) : SqT K H a xs := .inl (.inl h)
theorem Inv.list (I : Inv X pins σ H s) (h : SqL X.K H a xs) : ∃ its : List Value, Vals xs its ∧ PlainL s.heap a its.toArray ∧ xs.length ≤ sizeLine := by
  rcases h with h | ⟨o, its, n, hk, hc, hd, hs, hz, r⟩
  · refine L2.put_away fun G'259x2 h'259x2 => ?_
    obtain ⟨z, its, n, r, e⟩ := h.ok I.hok
    refine h'259x2 ?_
    exact ⟨its, r, ⟨_, n, e, rfl, rfl, rfl⟩, z⟩
  · refine ⟨its.toList, r, ⟨o, n, I.kIn a o hk, hc, hd, by simpa using hs⟩, ?_⟩
    have e := r.length
    simp only [Array.length_toList] at e
    omega
theorem Inv.tuple (I : Inv X pins σ H s) (h : SqT X.K H a xs) : ∃ its : List Value, Vals xs its ∧ IsTup s.heap a its.toArray ∧ xs.length ≤ sizeLine := by
  rcases h with h | ⟨o, its, n, hk, hc, hs, hz, r⟩
  · refine L2.put_away fun G'260x2 h'260x2 => ?_
    obtain ⟨z, its, r, p⟩ := h.ok I.hok
    refine h'260x2 ?_
    exact ⟨its, r, p, z⟩
  · refine ⟨its.toList, r, ⟨o, I.kIn a o hk, hc, n, by simpa using hs⟩, ?_⟩
    have e := r.length
    simp only [Array.length_toList] at e
    omega
theorem Inv.list_inj (I : Inv X pins σ H s) (h : SqL X.K H a xs) (h' : SqL X.K H a ys) : xs = ys := by
  refine L2.put_away fun G'261x1 h'261x1 => ?_
  obtain ⟨its, r, ⟨o, n, e, _, _, d⟩, _⟩ := I.list h
  refine h'261x1 ?_
  refine L2.put_away fun G'261x2 h'261x2 => ?_
  obtain ⟨its', r', ⟨o', n', e', _, _, d'⟩, _⟩ := I.list h'
  refine h'261x2 ?_
  rw [e] at e'; cases e'
  rw [d] at d'
  injection d' with d1 _
  have : its = its' := by simpa using congrArg Array.toList d1
  subst this
  exact r.inj r'
end

noncomputable abbrev Cx.wish (X : Cx) (E : Value → Shared → Prop) : Cx := { X with xe := E }
noncomputable abbrev Cx.nox (X : Cx) : Cx := X.wish fun _ _ => False
theorem Cx.Ok.wish {X : Cx} (ok : X.Ok) (E : Value → Shared → Prop) : (X.wish E).Ok :=
  ⟨ok.mod, ok.kind, ok.glob, ok.blt, ok.above, ok.inj, ok.has, ok.cab, ok.hd, ok.frames, ok.stk, ok.exf, ok.bs, ok.bsz, ok.noex, ok.exfs, ok.funs, ok.frf⟩
theorem Cx.Ok.unwish {X : Cx} {E : Value → Shared → Prop} (ok : (X.wish E).Ok) : X.Ok :=
  ⟨ok.mod, ok.kind, ok.glob, ok.blt, ok.above, ok.inj, ok.has, ok.cab, ok.hd, ok.frames, ok.stk, ok.exf, ok.bs, ok.bsz, ok.noex, ok.exfs, ok.funs, ok.frf⟩
section
variable {X : Cx} {pins : List (Addr × Obj)} {σ : St} {H : Hp} {s : Shared} {E : Value → Shared → Prop}
theorem Inv.wish (I : Inv X pins σ H s) (E : Value → Shared → Prop) : Inv (X.wish E) pins σ H s := ⟨I.ok.wish E, I.os, I.bare, I.base, I.loc, I.cell, I.free, I.freeC, I.pin, I.hok, I.len⟩
theorem Inv.unwish (I : Inv (X.wish E) pins σ H s) : Inv X pins σ H s := ⟨I.ok.unwish, I.os, I.bare, I.base, I.loc, I.cell, I.free, I.freeC, I.pin, I.hok, I.len⟩
theorem SP.unwish {D : Ends} {f : Flow} {s' : Shared} (h : SP (X.wish E) pins D f s') : SP X pins D f s' := by
  cases f with
  | next => obtain ⟨σ', H', I, q⟩ := h; exact ⟨σ', H', I.unwish, q⟩
  | brk => obtain ⟨σ', H', I, q⟩ := h; exact ⟨σ', H', I.unwish, q⟩
  | cont => obtain ⟨σ', H', I, q⟩ := h; exact ⟨σ', H', I.unwish, q⟩
  | ret u => obtain ⟨v, σ', H', I, r, q⟩ := h; exact ⟨v, σ', H', I.unwish, r, q⟩
theorem PE.nox {e : Expr} {t : TE} (h : PE X.nox e t) : PE X e t := fun pins s σ H Q I hw =>
  wpAny_mono (h pins s σ H Q (I.wish _) hw) (fun _ _ ⟨v, H', I', r, q⟩ => ⟨v, H', I'.unwish, r, q⟩) fun _ _ z => False.elim z
theorem PT.nox {e : Expr} {t : TT} (h : PT X.nox e t) : PT X e t := fun pins s σ H Q I hw =>
  wpAny_mono (h pins s σ H Q (I.wish _) hw) (fun _ _ ⟨H', I', q⟩ => ⟨H', I'.unwish, q⟩) fun _ _ z => False.elim z
theorem PSs.nox {st : List Stmt} {t : TS} (h : PSs X.nox st t) : PSs X st t := fun pins s σ H D I hw =>
  wpAny_mono (h pins s σ H D (I.wish _) hw) (fun _ _ q => q.unwish) fun _ _ z => False.elim z
end

section
variable {X : Cx} {st : Stmt} {rest : List Stmt} {t u : TS} {e : Expr} {te : TE} {pos : Pos}
noncomputable def tNext : TS := fun D σ H => D.nx σ H
noncomputable def tSeq (t u : TS) : TS := fun D σ H => t { D with nx := u D } σ H
theorem pss_nil : PSs X [] tNext := fun _ _ σ H _ I h => wpAny_execs_nil ⟨σ, H, I, h⟩
theorem pss_cons (h1 : PS X st t) (h2 : PSs X rest u) : PSs X (st :: rest) (tSeq t u) := by
  intro pins s σ H D I h
  refine wpAny_execs_cons (thn (h1 pins s σ H { D with nx := u D } I h) fun f s1 q => ?_)
  cases f with
  | next =>
    refine L2.put_away fun G'284x5 h'284x5 => ?_
    obtain ⟨σ', H', I', q⟩ := q
    refine h'284x5 ?_
    exact h2 pins s1 σ' H' D I' q
  | ret v => exact q
  | brk => exact q
  | cont => exact q
theorem pss_one (h1 : PS X st t) : PSs X [st] t := by
  intro pins s σ H D I h
  refine wpAny_execs_cons (thn (h1 pins s σ H D I h) fun f s1 q => ?_)
  cases f with
  | next => exact wpAny_execs_nil q
  | ret v => exact q
  | brk => exact q
  | cont => exact q
noncomputable def tBreak : TS := fun D σ H => D.bk σ H
noncomputable def tCont : TS := fun D σ H => D.ct σ H
theorem Inv.quiet {pins : List (Addr × Obj)} {σ : St} {H : Hp} {s : Shared} (I : Inv X pins σ H s) : interactive X.env = false := by simp [interactive, I.ok.kind]
noncomputable def tDrop (te : TE) : TS := fun D σ H => te σ H fun _ H1 => D.nx σ H1
theorem ps_expr (he : PE X e te) (hs : swapsWith e none pos.line X.env = pure false := by rfl) : PS X (.Expr e pos) (tDrop te) := by
  intro pins s σ H D I h
  exact wpAny_Expr_any (thn (he pins s σ H _ I h) fun v s1 ⟨x, H1, I1, r1, q1⟩ => ⟨σ, H1, I1, q1⟩) I.quiet hs
noncomputable def tRet (te : TE) : TS := fun D σ H => te σ H D.rt
theorem ps_ret (he : PE X e te) : PS X (.Return (some e) pos) (tRet te) := by
  intro pins s σ H D I h
  exact wpAny_Return_some (thn (he pins s σ H _ I h) fun v s1 ⟨x, H1, I1, r1, q1⟩ => ⟨x, σ, H1, I1, r1, q1⟩)
noncomputable def tRetN : TS := fun D _ H => D.rt .non H
noncomputable def tIfS (c : TT) (t u : TS) : TS := fun D σ H => c σ H fun b H1 => if b = true then t D σ H1 else u D σ H1
theorem ps_if {c : Expr} {a b : List Stmt} {tc : TT} (hc : PT X c tc) (ha : PSs X a t) (hb : PSs X b u) : PS X (.If c a b pos) (tIfS tc t u) := by
  intro pins s σ H D I h
  refine wpAny_If (thn (hc pins s σ H _ I h) fun d s1 ⟨H1, I1, q1⟩ => ?_)
  cases d with
  | true => exact ha pins s1 σ H1 D I1 q1
  | false => exact hb pins s1 σ H1 D I1 q1
end

noncomputable abbrev TG := V → St → Hp → (St → Hp → Prop) → Prop
noncomputable abbrev TGs := List V → St → Hp → (St → Hp → Prop) → Prop
noncomputable def PG (X : Cx) (target : Expr) (t : TG) : Prop :=
  ∀ (pins : List (Addr × Obj)) (s : Shared) (σ : St) (H : Hp) (v : V) (u : Value) (Q : St → Hp → Prop), Inv X pins σ H s → RelV v u → t v σ H Q →
    wpAny (model X.prog X.w) X.A (assign target X.env u) (fun _ s' => ∃ σ' H', Inv X pins σ' H' s' ∧ Q σ' H') X.xe s
noncomputable def PGs (X : Cx) (ts : List Expr) (t : TGs) : Prop :=
  ∀ (pins : List (Addr × Obj)) (s : Shared) (σ : St) (H : Hp) (vs : List V) (us : List Value) (Q : St → Hp → Prop), Inv X pins σ H s → Vals vs us → t vs σ H Q →
    wpAny (model X.prog X.w) X.A (assignInOrder ((assignEach ts X.env).map (·.2)) us) (fun _ s' => ∃ σ' H', Inv X pins σ' H' s' ∧ Q σ' H') X.xe s
noncomputable abbrev TSet := V → V → V → Hp → (Hp → Prop) → Prop
noncomputable def PSet (X : Cx) (t : TSet) : Prop :=
  ∀ (pins : List (Addr × Obj)) (s : Shared) (σ : St) (H : Hp) (o i v : V) (ov iv u : Value) (Q : Hp → Prop), Inv X pins σ H s → RelV o ov → RelV i iv → RelV v u → t o i v H Q →
    wpAny (model X.prog X.w) X.A (setItem ov iv u) (fun _ s' => ∃ H', Inv X pins σ H' s' ∧ Q H') X.xe s
noncomputable abbrev TIp := V → V → Hp → VK → Prop
section
variable {X : Cx} {pos : Pos}
noncomputable def gName (i : Nat) : TG := fun v σ H Q => Q (σ.set i (some v)) H
theorem pg_name {i : Nat} {x : Str} (hN : X.N.Nodup) (hi : X.N[i]? = some x) (hx : Loc X.env.scope x) (hf : X.fn x = true ∨ X.env.scope.names.lookup x = some .local := by first | exact .inl rfl | exact .inr rfl | assumption) : PG X (.Name x pos) (gName i) := by
  intro pins s σ H v u Q I r h
  exact wpAny_assign_Name (store_ok I hN hi hx r (fun s' I' => ⟨_, H, I', h⟩) hf)
noncomputable def gNil : TGs := fun vs σ H Q => vs = [] ∧ Q σ H
noncomputable def gCons (t : TG) (u : TGs) : TGs := fun vs σ H Q => ∃ v r, vs = v :: r ∧ t v σ H fun σ' H' => u r σ' H' Q
theorem pgs_nil : PGs X [] gNil := by
  intro pins s σ H vs us Q I r h
  obtain ⟨e, h⟩ := h
  subst e
  cases r
  exact assignInOrder_nil ⟨σ, H, I, h⟩
theorem pgs_cons {e : Expr} {es : List Expr} {t : TG} {u : TGs} (h1 : PG X e t) (h2 : PGs X es u)
    (hs : (assignEach (e :: es) X.env).map (·.2) = assign e X.env :: (assignEach es X.env).map (·.2) := by rfl) : PGs X (e :: es) (gCons t u) := by
  intro pins s σ H vs us Q I r h
  refine L2.put_away fun G'321x3 h'321x3 => ?_
  obtain ⟨v, vr, e1, h⟩ := h
  refine h'321x3 ?_
  subst e1
  cases r with
  | cons r rr =>
    rw [hs]
    refine assignInOrder_cons (thn (h1 pins s σ H _ _ _ I r h) fun _ s1 ⟨σ1, H1, I1, q1⟩ => ?_)
    exact h2 pins s1 σ1 H1 _ _ Q I1 rr q1
noncomputable def gTup (K : PySem.W.Frag) (n : Nat) (t : TGs) : TG := fun v σ H Q => ∃ a xs, v = .ref a ∧ SqT K H a xs ∧ xs.length = n ∧ t xs σ H Q
theorem pg_tup {es : List Expr} {k : Nat} {t : TGs} {n : Nat} (hc : X.calm = true) (h : PGs X es t)
    (hn : (assignEach es X.env).length = n := by rfl) (hst : (assignEach es X.env).findIdx? (·.1) = none := by rfl) : PG X (.Tuple es k pos) (gTup X.K n t) := by
  intro pins s σ H v u Q I r hw
  refine L2.put_away fun G'323x3 h'323x3 => ?_
  obtain ⟨a, xs, e1, hq, hl, hw⟩ := hw
  refine h'323x3 ?_
  subst e1
  cases r
  refine L2.put_away fun G'323x6 h'323x6 => ?_
  obtain ⟨its, rv, ht, hz⟩ := I.tuple hq
  refine h'323x6 ?_
  refine assign_Tuple_tuple (I.ok.hd hc) ht (by simp [hn, ← hl, rv.length]) hst fun h' hx => ?_
  have I1 : Inv X pins σ H { s with heap := h' } := I.kept (t' := s.toks) fun b o e => hx b o (Nat.ne_of_lt (Heap.lt_size e)) e
  exact h pins _ σ H xs _ Q I1 (by simpa using rv) hw
noncomputable def gSub (to ti : TE) (t : TSet) : TG := fun v σ H Q => to σ H fun o H1 => ti σ H1 fun i H2 => t o i v H2 fun H3 => Q σ H3
theorem pg_sub {o i : Expr} {to ti : TE} {t : TSet} (ho : PE X o to) (hi : PE X i ti) (hs : PSet X t)
    (ha : ∀ v, assign (.Subscript o i pos) X.env v = (do
      let ov ← holding [v] (eval o X.env)
      let iv ← holding [v, ov] (eval i X.env)
      standAt pos
      holding [v, ov, iv] (setItem ov iv v)
      release [v, ov, iv] []) := by intro _; rfl) : PG X (.Subscript o i pos) (gSub to ti t) := by
  intro pins s σ H v u Q I r h
  rw [ha]
  refine wpAny_bind (wpAny_holding (thn (ho pins s σ H _ I h) fun ov s1 ⟨x, H1, I1, r1, q1⟩ => ?_))
  refine wpAny_bind (wpAny_holding (thn (hi pins s1 σ H1 _ I1 q1) fun iv s2 ⟨y, H2, I2, r2, q2⟩ => ?_))
  refine wpAny_bind (wpAny_standAt (wpAny_bind (wpAny_holding (thn (hs pins s2 σ H2 x y v ov iv u _ I2 r1 r2 r q2) fun _ s3 ⟨H3, I3, q3⟩ => ?_))))
  exact wpAny_release ⟨σ, H3, I3, q3⟩
noncomputable def tAsg (te : TE) (g : TG) : TS := fun D σ H => te σ H fun x H1 => g x σ H1 D.nx
theorem ps_asg {tg e : Expr} {te : TE} {g : TG} (he : PE X e te) (hg : PG X tg g) (hs : swapsWithSole [tg] e pos.line X.env = pure false := by rfl) (hw : swappedStores [tg] e X.env = pure none := by rfl)
    (h1 : (assignEach [tg] X.env).map (·.2) = [assign tg X.env] := by rfl) : PS X (.Assign [tg] e pos) (tAsg te g) := by
  intro pins s σ H D I h
  refine wpAny_Assign_stores (thn (he pins s σ H _ I h) fun v s1 ⟨x, H1, I1, r1, q1⟩ => ?_) hs hw
  rw [h1]
  exact thn (hg pins s1 σ H1 x v _ I1 r1 q1) fun _ s2 q => q
theorem ps_set {i : Nat} {x : Str} {e : Expr} {te : TE} {pos' : Pos} (hN : X.N.Nodup) (hi : X.N[i]? = some x) (hx : Loc X.env.scope x) (he : PE X e te) (hs : swapsWith e (some (.Name x pos')) pos.line X.env = pure false := by rfl) (hf : X.fn x = true ∨ X.env.scope.names.lookup x = some .local := by first | exact .inl rfl | exact .inr rfl | assumption) :
    PS X (.Assign [.Name x pos'] e pos) (tAsg te (gName i)) := by
  intro pins s σ H D I h
  refine wpAny_Assign_Name (thn (he pins s σ H _ I h) fun v s1 ⟨y, H1, I1, r1, q1⟩ => ?_) hs
  exact store_ok I1 hN hi hx r1 (fun s2 I2 => ⟨_, H1, I2, q1⟩) hf
noncomputable def tPar (i j : Nat) (ta : TA) : TS := fun D σ H => ta σ H fun vs H1 => ∃ v w, vs = [v, w] ∧ D.nx ((σ.set i (some v)).set j (some w)) H1
theorem ps_par {i j : Nat} {x y : Str} {a b : Expr} {ta : TA} {px py pt : Pos} {kt k2 pt2} (hc : X.calm = true) (hN : X.N.Nodup) (hi : X.N[i]? = some x) (hj : X.N[j]? = some y) (hij : i ≠ j)
    (hx : X.env.scope.names.lookup x = some .local) (hy : X.env.scope.names.lookup y = some .local) (ha : PA X [a, b] ta)
    (hw : swappedStores [.Tuple [.Name x px, .Name y py] kt pt] (.Tuple [a, b] k2 pt2) X.env = pure (some [x, y]))
    (hs : swapsWithSole [.Tuple [.Name x px, .Name y py] kt pt] (.Tuple [a, b] k2 pt2) pos.line X.env = pure false := by rfl) :
    PS X (.Assign [.Tuple [.Name x px, .Name y py] kt pt] (.Tuple [a, b] k2 pt2) pos) (tPar i j ta) := by
  intro pins s σ H D I h
  rw [exec_Assign_arm]
  refine wpAny_bind (wpAny_standAt ?_)
  rw [hs]
  refine wpAny_bind (wpAny_pure ?_)
  rw [if_neg (by decide)]
  refine wpAny_bind (Tuple_ (thn (ha _ pins s σ H _ I h) fun us s1 ⟨vs, H1, I1, r1, q1⟩ => ?_))
  refine L2.put_away fun G'330x12 h'330x12 => ?_
  obtain ⟨v, w, e1, q1⟩ := q1
  refine h'330x12 ?_
  subst e1
  obtain ⟨u1, u2, rfl, rv, rw'⟩ : ∃ u1 u2, us = [u1, u2] ∧ RelV v u1 ∧ RelV w u2 := by
    cases r1 with
    | cons p q =>
      cases q with
      | cons p' q' =>
        cases q'
        exact ⟨_, _, rfl, p, p'⟩
  refine wpAny_newObj_type ?_ (by show 2 ≤ sizeLine; decide)
  have I2 : Inv X pins σ H1 { s1 with heap := s1.heap.push { cls := .type "tuple", data := .seq [u1, u2].toArray } } := I1.kept (t' := s1.toks) fun b o e => Heap.get?_push_of_some _ e
  rw [hw]
  refine wpAny_bind (wpAny_pure ?_)
  show wpAny (model X.prog X.w) X.A (do rule "assign.swapped-stores"; let items ← unpackItems (.ref s1.heap.objs.size) 2 none; assignInOrder [fun v => bindName X.env y v, fun v => bindName X.env x v] items.reverse; pure Flow.next) _ _ _
  refine wpAny_bind (wpAny_rule (wpAny_bind (unpackItems_tuple (items := #[u1, u2]) (I.ok.hd hc) (IsTup.new s1.heap _) fun h' hx' => ?_)))
  have I3 := I2.kept (h' := h') (t' := s1.toks) fun b o e => hx' b o (Nat.ne_of_lt (Heap.lt_size e)) e
  show wpAny _ _ (assignInOrder [fun v => bindName X.env y v, fun v => bindName X.env x v] [u2, u1] >>= fun _ => pure Flow.next) _ _ _
  refine wpAny_bind (assignInOrder_cons (wpAny_bindName (store_ok I3 hN hj (.inl hy) rw' (fun s2 I4 => ?_) (.inr hy))))
  refine assignInOrder_cons (wpAny_bindName (store_ok I4 hN hi (.inl hx) rv (fun s3 I5 => assignInOrder_nil (wpAny_pure ?_)) (.inr hx)))
  rw [List.set_comm _ _ (Ne.symm hij)] at I5
  exact ⟨_, H1, I5, q1⟩
noncomputable def tAug (i : Nat) (te : TE) (ti : TIp) : TS := fun D σ H => ∃ x, σ[i]? = some (some x) ∧ te σ H fun y H1 => ti x y H1 fun z H2 => D.nx (σ.set i (some z)) H2
noncomputable def ipI (f : Int → Int → Int) : TIp := fun x y H Q => ∃ i j, x = .int i ∧ y = .int j ∧ Q (.int (f i j)) H
end

section
variable {X : Cx} {pos : Pos}
noncomputable def tWhile (c : TT) (tb : TS) : TS := fun D σ H => ∃ W : Nat → St → Hp → Prop, (∃ m, W m σ H) ∧ ∀ m σ H, W m σ H →
  c σ H fun b H1 => if b = true then ∃ N : St → Hp → Prop, (∀ σ' H', N σ' H' → ∃ m', m' < m ∧ W m' σ' H') ∧ tb { D with nx := N, ct := N, bk := D.nx } σ H1 else D.nx σ H1
theorem ps_while {c : Expr} {body : List Stmt} {tc : TT} {tb : TS} (hp : PassesOwn (model X.prog X.w) X.A X.env X.xe) (hc : PT X c tc) (hb : PSs X body tb) : PS X (.While c body [] pos) (tWhile tc tb) := by
  intro pins s σ H D I h
  refine L2.put_away fun G'344x2 h'344x2 => ?_
  obtain ⟨W, ⟨m0, w0⟩, turn⟩ := h
  refine h'344x2 ?_
  refine wpAny_While (codeAny_whileLoop (fun n s' => ∃ σ' H', Inv X pins σ' H' s' ∧ W n σ' H') ?_ m0 ⟨σ, H, I, w0⟩)
  rintro n s1 ⟨σ1, H1, I1, w1⟩
  refine wpAny_passesOwn hp (thn (hc pins s1 σ1 H1 _ I1 (turn n σ1 H1 w1)) fun b s2 ⟨H2, I2, q2⟩ => ?_)
  cases b with
  | true =>
    refine L2.put_away fun G'344x8 h'344x8 => ?_
    obtain ⟨N, hN, q2⟩ := q2
    refine h'344x8 ?_
    rw [if_pos rfl]
    refine wpAny_passesOwn hp (thn (hb pins s2 σ1 H2 _ I2 q2) fun f s3 q3 => ?_)
    cases f with
    | next =>
      refine L2.put_away fun G'344x13 h'344x13 => ?_
      obtain ⟨σ3, H3, I3, n3⟩ := q3
      refine h'344x13 ?_
      refine L2.put_away fun G'344x14 h'344x14 => ?_
      obtain ⟨m', hm, w3⟩ := hN σ3 H3 n3
      refine h'344x14 ?_
      exact ⟨m', hm, σ3, H3, I3, w3⟩
    | cont =>
      refine L2.put_away fun G'344x17 h'344x17 => ?_
      obtain ⟨σ3, H3, I3, n3⟩ := q3
      refine h'344x17 ?_
      refine L2.put_away fun G'344x18 h'344x18 => ?_
      obtain ⟨m', hm, w3⟩ := hN σ3 H3 n3
      refine h'344x18 ?_
      exact ⟨m', hm, σ3, H3, I3, w3⟩
    | brk => exact q3
    | ret v => exact q3
  | false =>
    rw [if_neg Bool.false_ne_true]
    exact wpAny_execs_nil ⟨σ1, H2, I2, q2⟩
end

structure It where
  go : Nat → Hp → Prop
  yld : Nat → Hp → V → Hp → Prop
  stop : Nat → Hp → Prop
noncomputable def FpOk (X : Cx) (pins : List (Addr × Obj)) (H : Hp) (b : Addr) : Prop :=
  H b = none ∧ b ≠ X.env.locals ∧ b ∉ X.fs ∧ (b ∈ X.ex ∨ X.s₀.heap.objs.size ≤ b) ∧ (∀ x c, X.env.cells.lookup x = some c → c ≠ b) ∧ ∀ p ∈ X.pn ++ pins, p.1 ≠ b
theorem Inv.fpOk {X : Cx} {pins : List (Addr × Obj)} {σ : St} {H H' : Hp} {s : Shared} {b : Addr} (I : Inv X pins σ H s) (hb : s.heap.objs.size ≤ b) (hn : H' b = none) : FpOk X pins H' b := by
  refine ⟨hn, Nat.ne_of_gt (Nat.lt_of_lt_of_le I.lt hb), I.nofs hb, .inr (Nat.le_trans I.sz hb), fun x c e z => ?_, fun p hp z => ?_⟩
  · obtain ⟨v, q⟩ := I.cell x c e
    exact absurd (Nat.lt_of_lt_of_le q.lt (by rw [z]; exact hb)) (Nat.lt_irrefl _)
  · exact absurd (Nat.lt_of_lt_of_le (Heap.lt_size (I.pin p hp).1) (by rw [z]; exact hb)) (Nat.lt_irrefl _)
structure Turn (P : Program) (w : World) (K : PySem.W.Frag) (tg : Expr) (J : It) (fp : List Addr) (it : Addr) (tn : Nat → Heap → Prop) : Prop where
  mem : it ∈ fp
  obj : ∀ i h, tn i h → ∀ b ∈ fp, ∃ o, h.get? b = some o ∧ ∀ v, o.data ≠ .cell v
  keep : ∀ i h h', tn i h → (∀ b ∈ fp, ∀ o, h.get? b = some o → h'.get? b = some o) → tn i h'
  item : ∀ (X : Cx), X.prog = P → X.w = w → X.K = K → X.calm = true → ∀ (i : Nat) (pins : List (Addr × Obj)) (s : Shared) (σ : St) (H : Hp) (E : Value → Shared → Prop), Inv X pins σ H s → (∀ b ∈ fp, FpOk X pins H b) → tn i s.heap → J.go i H →
    wpAny (model P w) X.A (pyNext (.ref it)) (fun r s1 => ∃ u, r = some u ∧
      wpAny (model P w) X.A (letOwnedTupleGo tg (.ref it) u) (fun _ s2 => ∃ x H', Inv X pins σ H' s2 ∧ RelV x u ∧ J.yld i H x H' ∧ tn (i + 1) s2.heap ∧ ∀ b ∈ fp, H' b = none) E s1) E s
  done : ∀ (X : Cx), X.prog = P → X.w = w → X.K = K → X.calm = true → ∀ (i : Nat) (pins : List (Addr × Obj)) (s : Shared) (σ : St) (H : Hp) (E : Value → Shared → Prop), Inv X pins σ H s → (∀ b ∈ fp, FpOk X pins H b) → tn i s.heap → J.stop i H →
    wpAny (model P w) X.A (pyNext (.ref it)) (fun r s1 => r = none ∧ Inv X pins σ H s1) E s
  self : ∀ (A : Around) (i : Nat) (s : Shared) (Q : Value → Shared → Prop) (E : Value → Shared → Prop), tn i s.heap → Q (.ref it) s → wpAny (model P w) A (pyIter (.ref it)) Q E s
noncomputable abbrev TI := St → Hp → (It → Hp → Prop) → Prop
noncomputable def PIE (X : Cx) (pins : List (Addr × Obj)) (σ : St) (tg : Expr) (R : It → Hp → Prop) (itv : Value) (s2 : Shared) : Prop :=
  ∃ (it : Addr) (fp : List Addr) (tn : Nat → Heap → Prop) (J : It) (H' : Hp), itv = .ref it ∧ Inv X pins σ H' s2 ∧ Turn X.prog X.w X.K tg J fp it tn ∧ tn 0 s2.heap ∧ (∀ b ∈ fp, FpOk X pins H' b) ∧ R J H'
noncomputable def PI (X : Cx) (tg iter : Expr) (wi : TI) : Prop :=
  ∀ (pins : List (Addr × Obj)) (s : Shared) (σ : St) (H : Hp) (R : It → Hp → Prop), Inv X pins σ H s → wi σ H R →
    wpAny (model X.prog X.w) X.A (eval iter X.env) (fun v s1 => wpAny (model X.prog X.w) X.A (pyIter v) (PIE X pins σ tg R) X.xe s1) X.xe s

theorem go_of {M : Model} {A : Around} {E : Value → Shared → Prop} {s : Shared} {tg : Expr} {it : Addr} {u : Value} {o : Obj} {n : String} {vs : Array Value} {Q : Unit → Shared → Prop} (ho : s.heap.get? it = some o) (hc : o.cls = .type n) (hd : o.data = .fields vs)
    (hn : ["enumerate", "zip", "dict_itemiterator", "dict_reverseitemiterator", "odict_iterator", "itertools.zip_longest", "itertools.pairwise"].contains n = false) (hQ : Q () s) : wpAny M A (letOwnedTupleGo tg (.ref it) u) Q E s := by
  unfold letOwnedTupleGo
  cases tg <;> first
    | exact wpAny_pure hQ
    | (cases u <;> first
        | exact wpAny_pure hQ
        | (refine wpAny_bind (wpAny_load ho ?_)
           rw [hc, hd]
           show wpAny M A (if (["enumerate", "zip", "dict_itemiterator", "dict_reverseitemiterator", "odict_iterator", "itertools.zip_longest", "itertools.pairwise"].contains n && vs[0]? == some (rawInt _)) = true then _ else _) Q E s
           rw [if_neg (by intro h; rw [hn, Bool.false_and] at h; cases h)]
           exact wpAny_pure hQ))

noncomputable def Itl (K : PySem.W.Frag) (a : Addr) : It :=
  ⟨fun i H => ∃ xs x, SqL K H a xs ∧ xs[i]? = some x, fun i H x H' => H' = H ∧ ∀ xs, SqL K H a xs → xs[i]? = some x, fun i H => ∃ xs, SqL K H a xs ∧ xs.length ≤ i⟩
noncomputable def Itt (K : PySem.W.Frag) (a : Addr) : It :=
  ⟨fun i H => ∃ xs x, SqT K H a xs ∧ xs[i]? = some x, fun i H x H' => H' = H ∧ ∀ xs, SqT K H a xs → xs[i]? = some x, fun i H => ∃ xs, SqT K H a xs ∧ xs.length ≤ i⟩
noncomputable def Itr (lo : Int) (n : Nat) : It := ⟨fun i _ => i < n, fun i H x H' => H' = H ∧ x = .int (lo + i), fun i _ => n ≤ i⟩
theorem turn_list {P : Program} {w : World} {K : PySem.W.Frag} {tg : Expr} (a it : Addr) : Turn P w K tg (Itl K a) [it] it (fun i h => h.IsListIter it a i) where
  mem := by simp
  obj := fun i h st b hb => by
    have e : b = it := by simpa using hb
    subst e
    refine L2.put_away fun G'358x5 h'358x5 => ?_
    obtain ⟨o, e, c, d⟩ := st
    refine h'358x5 ?_
    exact ⟨o, e, fun v z => by rw [d] at z; cases z⟩
  keep := fun i h h' st k => st.at fun o e => k it (by simp) o e
  item := by
    intro X hP hw hK hc i pins s σ H E I hf st hg
    subst hP hw hK
    refine L2.put_away fun G'358x11 h'358x11 => ?_
    obtain ⟨xs, x, hq, hx⟩ := hg
    refine h'358x11 ?_
    refine L2.put_away fun G'358x12 h'358x12 => ?_
    obtain ⟨its, rv, p, hz⟩ := I.list hq
    refine h'358x12 ?_
    refine L2.put_away fun G'358x13 h'358x13 => ?_
    obtain ⟨u, hu, ru⟩ := rv.get hx
    refine h'358x13 ?_
    refine L2.put_away fun G'358x14 h'358x14 => ?_
    obtain ⟨f0, f1, f2, f3, f4, f5⟩ := hf it (by simp)
    refine h'358x14 ?_
    refine wpAny_pyNext_list_item st p.isList (x := u) (by simpa using hu) fun h' st' sb => ?_
    have I1 : Inv X pins σ H { s with heap := h' } := I.turned (t' := s.toks) (fun b o hb e => (sb.2 b hb).trans e) f0 f1 f3 f4 f5
    refine L2.put_away fun G'358x17 h'358x17 => ?_
    obtain ⟨o, e, c, d⟩ := id st'
    refine h'358x17 ?_
    exact ⟨u, rfl, go_of (s := { s with heap := h' }) e c d (by decide) ⟨x, H, I1, ru, ⟨rfl, fun ys hy => by rw [I.list_inj hy hq]; exact hx⟩, st', fun b hb => (hf b hb).1⟩⟩
  done := by
    intro X hP hw hK hc i pins s σ H E I hf st hg
    subst hP hw hK
    refine L2.put_away fun G'358x22 h'358x22 => ?_
    obtain ⟨xs, hq, hx⟩ := hg
    refine h'358x22 ?_
    refine L2.put_away fun G'358x23 h'358x23 => ?_
    obtain ⟨its, rv, p, hz⟩ := I.list hq
    refine h'358x23 ?_
    refine L2.put_away fun G'358x24 h'358x24 => ?_
    obtain ⟨f0, f1, f2, f3, f4, f5⟩ := hf it (by simp)
    refine h'358x24 ?_
    have hl := rv.length
    exact wpAny_pyNext_list_end (I.ok.hd hc) st p.isList (by simp; (clear hz f3; omega)) fun h' eb => ⟨rfl, I.turned (t' := s.toks) (fun b o hb e => eb b o hb e) f0 f1 f3 f4 f5⟩
  self := fun _ _ _ _ _ st h => wpAny_pyIter_listiter st h
theorem turn_range {P : Program} {w : World} {K : PySem.W.Frag} {tg : Expr} (it : Addr) (lo : Int) (n : Nat) : Turn P w K tg (Itr lo n) [it] it (fun i h => IsRangeIter h it (lo + (i : Nat) * 1) ((n : Int) - (i : Nat)) 1) where
  mem := by simp
  obj := fun i h st b hb => by
    have e : b = it := by simpa using hb
    subst e
    exact ⟨_, st, fun v z => by
      have z' : Data.fields _ = Data.cell v := z
      cases z'⟩
  keep := fun i h h' st k => k it (by simp) _ st
  item := by
    intro X hP hw hK hc i pins s σ H E I hf st hg
    subst hP hw hK
    refine L2.put_away fun G'360x12 h'360x12 => ?_
    obtain ⟨f0, f1, f2, f3, f4, f5⟩ := hf it (by simp)
    refine h'360x12 ?_
    have W := Walks.range (prog := X.prog) (w := X.w) (I.ok.hd hc) it lo 1 n
    refine W.item i s _ _ hg st fun v h' tk hv st' kk => ?_
    obtain ⟨t, rfl⟩ := hv
    have I1 : Inv X pins σ H { s with heap := h', toks := tk } := I.turned (fun b o hb e => kk b o (by simpa using hb) e) f0 f1 f3 f4 f5
    refine ⟨_, rfl, go_of (s := { s with heap := h', toks := tk }) (n := "range_iterator") st' rfl rfl (by decide) ⟨.int (lo + i), H, I1, ⟨t, ?_⟩, ⟨rfl, rfl⟩, st', fun b hb => (hf b hb).1⟩⟩
    rw [Int.mul_one]
  done := by
    intro X hP hw hK hc i pins s σ H E I hf st hg
    subst hP hw hK
    refine L2.put_away fun G'360x22 h'360x22 => ?_
    obtain ⟨f0, f1, f2, f3, f4, f5⟩ := hf it (by simp)
    refine h'360x22 ?_
    exact wpAny_pyNext_range_end (I.ok.hd hc) st (by have : n ≤ i := hg; (clear f3; omega)) fun h' eb => ⟨rfl, I.turned (t' := s.toks) (fun b o hb e => eb b o hb e) f0 f1 f3 f4 f5⟩
  self := fun _ _ _ _ _ st h => wpAny_pyIter_rangeiter st h
end L2

namespace L2
open PySem PySem.Spec PyProof.Rows
section
variable {X : Cx} {tg : Expr}
noncomputable def iList (K : PySem.W.Frag) (tl : TE) : TI := fun σ H R => tl σ H fun x H1 => ∃ a, x = .ref a ∧ (∃ xs, SqL K H1 a xs) ∧ R (Itl K a) H1
noncomputable def iTup (K : PySem.W.Frag) (tl : TE) : TI := fun σ H R => tl σ H fun x H1 => ∃ a, x = .ref a ∧ (∃ xs, SqT K H1 a xs) ∧ R (Itt K a) H1
theorem pi_list {l : Expr} {tl : TE} (hl : PE X l tl) : PI X tg l (iList X.K tl) := by
  intro pins s σ H R I h
  refine thn (hl pins s σ H _ I h) fun v s1 ⟨x, H1, I1, r1, q1⟩ => ?_
  refine L2.put_away fun G'368x3 h'368x3 => ?_
  obtain ⟨a, e, ⟨xs, hq⟩, q⟩ := q1
  refine h'368x3 ?_
  subst e
  cases r1
  refine L2.put_away fun G'368x6 h'368x6 => ?_
  obtain ⟨its, rv, p, hz⟩ := I1.list hq
  refine h'368x6 ?_
  refine wpAny_pyIter_list p.isList ?_
  refine ⟨s1.heap.objs.size, [s1.heap.objs.size], _, _, H1, rfl, I1.kept (t' := s1.toks) fun b o e => Heap.get?_push_of_some _ e, turn_list a _, ⟨_, Heap.get?_push_size _ rfl, rfl, rfl⟩, fun b hb => ?_, q⟩
  have e : b = s1.heap.objs.size := by simpa using hb
  subst e
  exact I1.fpOk (Nat.le_refl _) (I1.hok.fresh (Nat.le_refl _))
theorem range_it {pins : List (Addr × Obj)} {σ : St} {H : Hp} {s : Shared} {R : It → Hp → Prop} {E : Value → Shared → Prop} {lo hi : Int} {t u v : Tok} {tk : Nat} (I : Inv X pins σ H s) (h1 : -(2 ^ 62) ≤ lo) (h2 : lo < 2 ^ 62) (h3 : -(2 ^ 62) ≤ hi) (h4 : hi < 2 ^ 62)
    (q : R (Itr lo (hi - lo).toNat) H) : wpAny (model X.prog X.w) X.A (pyIter (.ref s.heap.objs.size)) (PIE X pins σ tg R) E { s with heap := s.heap.push { cls := .type "range", data := .fields #[.int lo t, .int hi u, .int 1 v] }, toks := tk } := by
  refine wpAny_pyIter_range (IsRange.new ..) (small_one h1 h2 h3 h4) ?_
  have I1 : Inv X pins σ H { s with heap := s.heap.push { cls := .type "range", data := .fields #[.int lo t, .int hi u, .int 1 v] }, toks := tk } := I.kept fun b o e => Heap.get?_push_of_some _ e
  refine ⟨(s.heap.push { cls := .type "range", data := .fields #[.int lo t, .int hi u, .int 1 v] }).objs.size, [(s.heap.push { cls := .type "range", data := .fields #[.int lo t, .int hi u, .int 1 v] }).objs.size], _, _, H, rfl,
    I1.kept (t' := tk) fun b o e => Heap.get?_push_of_some _ e, turn_range _ lo (hi - lo).toNat, ?_, fun b hb => ?_, q⟩
  · have e1 : lo + ((0 : Nat) : Int) * 1 = lo := by simp
    have e2 : (((hi - lo).toNat : Nat) : Int) - ((0 : Nat) : Int) = Builtin.Range.rangeSize lo hi 1 := by rw [rangeSize_one]; split <;> (clear h1 h2 h3 h4 e1; omega)
    show IsRangeIter _ _ (lo + ((0 : Nat) : Int) * 1) ((((hi - lo).toNat : Nat) : Int) - ((0 : Nat) : Int)) 1
    rw [e1, e2]
    exact Heap.get?_push_size _ rfl
  · have e : b = (s.heap.push { cls := .type "range", data := .fields #[.int lo t, .int hi u, .int 1 v] }).objs.size := by simpa using hb
    subst e
    exact I1.fpOk (Nat.le_refl _) (I1.hok.fresh (Nat.le_refl _))
noncomputable def iRng1 (ta : TA) : TI := fun σ H R => ta σ H fun vs H1 => ∃ j : Int, vs = [.int j] ∧ -(2 ^ 62) ≤ j ∧ j < 2 ^ 62 ∧ R (Itr 0 j.toNat) H1
noncomputable def iRng2 (ta : TA) : TI := fun σ H R => ta σ H fun vs H1 => ∃ i j : Int, vs = [.int i, .int j] ∧ (-(2 ^ 62) ≤ i ∧ i < 2 ^ 62 ∧ -(2 ^ 62) ≤ j ∧ j < 2 ^ 62) ∧ R (Itr i (j - i).toNat) H1
theorem pi_range1 {a : Expr} {ta : TA} {p pos : Pos} (hg : Gl X "range") (hm : X.mg "range" = none) (ha : PA X [a] ta) (hs : starEach [a] X.env = [(false, eval a X.env)] := by rfl) : PI X tg (.Call (.Name "range" p) [a] [] pos) (iRng1 ta) := by
  intro pins s σ H R I h
  refine Call_ (ld_blt I hg hm boot_range (PyProof.Rows.callWith_type1 (thn (ha pos pins s σ H _ I h) fun us s1 ⟨vs, H1, I1, r1, q1⟩ => ?_) hs rfl))
  refine L2.put_away fun G'373x3 h'373x3 => ?_
  obtain ⟨j, e, q1, q2, q⟩ := q1
  refine h'373x3 ?_
  subst e
  cases r1 with
  | cons r rr =>
    cases rr
    obtain ⟨t, rfl⟩ := r
    exact call_range_1 (range_it I1 (by (clear q1 q2; omega)) (by (clear q1 q2; omega)) q1 q2 (by simpa using q))
theorem pi_range2 {a b : Expr} {ta : TA} {p pos : Pos} (hg : Gl X "range") (hm : X.mg "range" = none) (ha : PA X [a, b] ta) (hs : starEach [a, b] X.env = [(false, eval a X.env), (false, eval b X.env)] := by rfl) (hs2 : starEach [b] X.env = [(false, eval b X.env)] := by rfl) :
    PI X tg (.Call (.Name "range" p) [a, b] [] pos) (iRng2 ta) := by
  intro pins s σ H R I h
  refine Call_ (ld_blt I hg hm boot_range (PyProof.Rows.callWith_type1 (thn (ha pos pins s σ H _ I h) fun us s1 ⟨vs, H1, I1, r1, q1⟩ => ?_) (by rw [hs, hs2]) (by rw [hs2]; rfl)))
  refine L2.put_away fun G'374x4 h'374x4 => ?_
  obtain ⟨i, j, e, ⟨q1, q2, q3, q4⟩, q⟩ := q1
  refine h'374x4 ?_
  subst e
  cases r1 with
  | cons r rr =>
    cases rr with
    | cons r' rr =>
      cases rr
      obtain ⟨t, rfl⟩ := r
      obtain ⟨t', rfl⟩ := r'
      exact call_range_2 (range_it I1 q1 q2 q3 q4 q)

noncomputable def tFor (wi : TI) (g : TG) (tb : TS) : TS := fun D σ H => wi σ H fun J H1 => ∃ W : Nat → Nat → St → Hp → Prop, (∃ m, W 0 m σ H1) ∧ ∀ i m σ H, W i m σ H →
  (J.stop i H ∧ D.nx σ H) ∨ (J.go i H ∧ ∃ N : St → Hp → Prop, (∀ σ' H', N σ' H' → ∃ m', m' < m ∧ W (i + 1) m' σ' H') ∧ ∀ x H', J.yld i H x H' → g x σ H' fun σ2 H2 => tb { D with nx := N, ct := N, bk := D.nx } σ2 H2)
noncomputable def pinsAt (fp : List Addr) (h : Heap) : List (Addr × Obj) := fp.filterMap fun b => (h.get? b).map fun o => (b, o)
theorem mem_pinsAt {fp : List Addr} {h : Heap} {b : Addr} {o : Obj} (hb : b ∈ fp) (e : h.get? b = some o) : (b, o) ∈ pinsAt fp h := List.mem_filterMap.mpr ⟨b, hb, by rw [e]; rfl⟩
theorem of_pinsAt {fp : List Addr} {h : Heap} {p : Addr × Obj} (hp : p ∈ pinsAt fp h) : p.1 ∈ fp ∧ h.get? p.1 = some p.2 := by
  refine L2.put_away fun G'379x1 h'379x1 => ?_
  obtain ⟨b, hb, e⟩ := List.mem_filterMap.mp hp
  refine h'379x1 ?_
  cases q : h.get? b with
  | none => rw [q] at e; cases e
  | some o =>
    rw [q] at e
    have e' : (b, o) = p := Option.some.inj e
    subst e'
    exact ⟨hb, q⟩
theorem Inv.pinned {pins : List (Addr × Obj)} {σ : St} {H : Hp} {s : Shared} {fp : List Addr} (I : Inv X pins σ H s) (hf : ∀ b ∈ fp, FpOk X pins H b) (ho : ∀ b ∈ fp, ∃ o, s.heap.get? b = some o ∧ ∀ v, o.data ≠ .cell v) : Inv X (pins ++ pinsAt fp s.heap) σ H s :=
  I.pins_of fun p hp => (List.mem_append.mp hp).elim (fun z => I.pin p (List.mem_append_right _ z)) fun z => by
    obtain ⟨hb, e⟩ := of_pinsAt z
    refine L2.put_away fun G'380x3 h'380x3 => ?_
    obtain ⟨f0, f1, f2, _⟩ := hf p.1 hb
    refine h'380x3 ?_
    refine L2.put_away fun G'380x4 h'380x4 => ?_
    obtain ⟨o, e', d⟩ := ho p.1 hb
    refine h'380x4 ?_
    rw [e] at e'; cases e'
    exact ⟨e, f0, f1, f2, d⟩
theorem Inv.unpinned {pins pl : List (Addr × Obj)} {σ : St} {H : Hp} {s : Shared} (I : Inv X (pins ++ pl) σ H s) : Inv X pins σ H s := I.pins_of fun p hp => I.pin p (List.mem_append_right _ (List.mem_append_left _ hp))
theorem ps_for {iter : Expr} {body : List Stmt} {wi : TI} {g : TG} {tb : TS} {pos : Pos} (hp : PassesOwn (model X.prog X.w) X.A X.env X.xe) (hc : X.calm = true) (hi : PI X tg iter wi) (hg : PG X tg g) (hb : PSs X body tb)
    (hs : ∀ x, foldedSetIterable iter X.env x = pure x := by intro _; rfl) : PS X (.For tg iter body [] pos) (tFor wi g tb) := by
  intro pins s σ H D I h
  refine wpAny_For (thn (hi pins s σ H _ I h) fun v s1 h1 => thn h1 fun itv s2 h2 => ?_) hs
  refine L2.put_away fun G'382x4 h'382x4 => ?_
  obtain ⟨it, fp, tn, J, H2, e, I2, T, st2, f2, W, ⟨m0, w0⟩, turn⟩ := h2
  refine h'382x4 ?_
  subst e
  -- what stays true of the iterator's objects through the loop
  have stat : ∀ {H' : Hp}, (∀ b ∈ fp, H' b = none) → ∀ b ∈ fp, FpOk X pins H' b := fun hn b hb => ⟨hn b hb, (f2 b hb).2⟩
  refine codeAny_forLoop_any (fun n s' => ∃ i σ' H', Inv X pins σ' H' s' ∧ tn i s'.heap ∧ (∀ b ∈ fp, H' b = none) ∧ W i n σ' H') ?_ m0 ⟨0, σ, H2, I2, st2, fun b hb => (f2 b hb).1, w0⟩
  rintro n s3 ⟨i, σ3, H3, I3, st3, fr3, w3⟩
  rcases turn i n σ3 H3 w3 with ⟨stop, qn⟩ | ⟨go, N, hN, step⟩
  · refine wpAny_passesOwn hp (thn (T.done X rfl rfl rfl hc i pins s3 σ3 H3 X.xe I3 (stat fr3) st3 stop) fun r s4 ⟨hr, I4⟩ => ?_)
    subst hr
    exact wpAny_execs_nil ⟨σ3, H3, I4, qn⟩
  · refine wpAny_passesOwn hp (thn (T.item X rfl rfl rfl hc i pins s3 σ3 H3 X.xe I3 (stat fr3) st3 go) fun r s4 ⟨u, hr, h4⟩ => ?_)
    subst hr
    refine wpAny_passesOwn hp (thn h4 fun _ s5 ⟨x, H5, I5, r5, y5, st5, fr5⟩ => ?_)
    have I5' := I5.pinned (stat fr5) (T.obj _ _ st5)
    refine wpAny_passesOwn hp (thn (hg _ s5 σ3 H5 x u _ I5' r5 (step x H5 y5)) fun _ s6 ⟨σ6, H6, I6, q6⟩ => ?_)
    refine wpAny_passesOwn hp (thn (hb _ s6 σ6 H6 _ I6 q6) fun f s7 q7 => ?_)
    have again : ∀ {σ7 : St} {H7 : Hp}, Inv X (pins ++ pinsAt fp s5.heap) σ7 H7 s7 → N σ7 H7 → ∃ m, m < n ∧ ∃ i σ' H', Inv X pins σ' H' s7 ∧ tn i s7.heap ∧ (∀ b ∈ fp, H' b = none) ∧ W i m σ' H' := fun {σ7 H7} I7 n7 => by
      refine L2.put_away fun G'382x21 h'382x21 => ?_
      obtain ⟨m', hm, w7⟩ := hN σ7 H7 n7
      refine h'382x21 ?_
      refine ⟨m', hm, i + 1, σ7, H7, I7.unpinned, T.keep _ _ _ st5 fun b hb o e => (I7.pin (b, o) (List.mem_append_right _ (List.mem_append_right _ (mem_pinsAt hb e)))).1, fun b hb => ?_, w7⟩
      refine L2.put_away fun G'382x23 h'382x23 => ?_
      obtain ⟨o, e, d⟩ := T.obj _ _ st5 b hb
      refine h'382x23 ?_
      exact (I7.pin (b, o) (List.mem_append_right _ (List.mem_append_right _ (mem_pinsAt hb e)))).2.1
    cases f with
    | next => obtain ⟨σ7, H7, I7, n7⟩ := q7; exact again I7 n7
    | cont => obtain ⟨σ7, H7, I7, n7⟩ := q7; exact again I7 n7
    | brk => obtain ⟨σ7, H7, I7, q7⟩ := q7; exact ⟨σ7, H7, I7.unpinned, q7⟩
    | ret v => obtain ⟨x7, σ7, H7, I7, r7, q7⟩ := q7; exact ⟨x7, σ7, H7, I7.unpinned, r7, q7⟩
end

theorem for_list {K : PySem.W.Frag} {a : Addr} {xs : List V} {g : TG} {tb : TS} {D : Ends} {σ : St} {H : Hp} (Pv : Nat → St → Hp → Prop) (h0 : Pv 0 σ H) (hl : ∀ i σ H, i ≤ xs.length → Pv i σ H → SqL K H a xs)
    (hs : ∀ i x σ H, xs[i]? = some x → Pv i σ H → g x σ H fun σ2 H2 => tb { D with nx := Pv (i + 1), ct := Pv (i + 1), bk := D.nx } σ2 H2) (hd : ∀ σ H, Pv xs.length σ H → D.nx σ H) :
    ∃ W : Nat → Nat → St → Hp → Prop, (∃ m, W 0 m σ H) ∧ ∀ i m σ H, W i m σ H →
      ((Itl K a).stop i H ∧ D.nx σ H) ∨ ((Itl K a).go i H ∧ ∃ N : St → Hp → Prop, (∀ σ' H', N σ' H' → ∃ m', m' < m ∧ W (i + 1) m' σ' H') ∧ ∀ x H', (Itl K a).yld i H x H' → g x σ H' fun σ2 H2 => tb { D with nx := N, ct := N, bk := D.nx } σ2 H2) := by
  refine ⟨fun i m σ H => m = xs.length - i ∧ i ≤ xs.length ∧ Pv i σ H, ⟨xs.length, by simp, Nat.zero_le _, h0⟩, ?_⟩
  rintro i m σ H ⟨rfl, hi, p⟩
  have q := hl i σ H hi p
  by_cases hlt : i < xs.length
  · refine .inr ⟨⟨xs, xs[i], q, by simp [hlt]⟩, Pv (i + 1), fun σ' H' p' => ⟨xs.length - (i + 1), by (clear hl hs hi; omega), rfl, hlt, p'⟩, fun x H' y => ?_⟩
    obtain ⟨e, y⟩ := y
    subst e
    exact hs i x σ _ (y xs q) p
  · have e : i = xs.length := by (clear hl hs; omega)
    subst e
    exact .inl ⟨⟨xs, q, Nat.le_refl _⟩, hd σ H p⟩
theorem for_range {lo : Int} {n : Nat} {g : TG} {tb : TS} {D : Ends} {σ : St} {H : Hp} (Pv : Nat → St → Hp → Prop) (h0 : Pv 0 σ H)
    (hs : ∀ i σ H, i < n → Pv i σ H → g (.int (lo + i)) σ H fun σ2 H2 => tb { D with nx := Pv (i + 1), ct := Pv (i + 1), bk := D.nx } σ2 H2) (hd : ∀ σ H, Pv n σ H → D.nx σ H) :
    ∃ W : Nat → Nat → St → Hp → Prop, (∃ m, W 0 m σ H) ∧ ∀ i m σ H, W i m σ H →
      ((Itr lo n).stop i H ∧ D.nx σ H) ∨ ((Itr lo n).go i H ∧ ∃ N : St → Hp → Prop, (∀ σ' H', N σ' H' → ∃ m', m' < m ∧ W (i + 1) m' σ' H') ∧ ∀ x H', (Itr lo n).yld i H x H' → g x σ H' fun σ2 H2 => tb { D with nx := N, ct := N, bk := D.nx } σ2 H2) := by
  refine ⟨fun i m σ H => m = n - i ∧ i ≤ n ∧ Pv i σ H, ⟨n, by simp, Nat.zero_le _, h0⟩, ?_⟩
  rintro i m σ H ⟨rfl, hi, p⟩
  by_cases hlt : i < n
  · refine .inr ⟨hlt, Pv (i + 1), fun σ' H' p' => ⟨n - (i + 1), by (clear hs hi; omega), rfl, hlt, p'⟩, fun x H' y => ?_⟩
    obtain ⟨e, y⟩ := y
    subst e y
    exact hs i σ _ hlt p
  · have e : i = n := by (clear hs; omega)
    subst e
    exact .inl ⟨Nat.le_refl _, hd σ H p⟩
end L2

namespace L2
open PySem PySem.Spec PyProof.Rows

noncomputable abbrev R2 := V → V → Hp → VK → Prop
noncomputable def OpR (X : Cx) (f : Value → Value → Sem Value) (r : R2) : Prop :=
  ∀ (pins : List (Addr × Obj)) (s : Shared) (σ : St) (H : Hp) (x y : V) (v u : Value) (Q : VK), Inv X pins σ H s → RelV x v → RelV y u → r x y H Q →
    wpAny (model X.prog X.w) X.A (f v u) (EP X pins σ Q) X.xe s
noncomputable def UnR (X : Cx) (f : Value → Sem Value) (r : V → Hp → VK → Prop) : Prop :=
  ∀ (pins : List (Addr × Obj)) (s : Shared) (σ : St) (H : Hp) (x : V) (v : Value) (Q : VK), Inv X pins σ H s → RelV x v → r x H Q →
    wpAny (model X.prog X.w) X.A (f v) (EP X pins σ Q) X.xe s
noncomputable def CallR (X : Cx) (f : Value) (r : List V → Hp → VK → Prop) : Prop :=
  ∀ (pins : List (Addr × Obj)) (s : Shared) (σ : St) (H : Hp) (xs : List V) (us : List Value) (Q : VK), Inv X pins σ H s → Vals xs us → r xs H Q →
    wpAny (model X.prog X.w) X.A (call f us) (EP X pins σ Q) X.xe s
noncomputable def tOp (r : R2) (ta tb : TE) : TE := fun σ H Q => ta σ H fun x H1 => tb σ H1 fun y H2 => r x y H2 Q
noncomputable def tUn (r : V → Hp → VK → Prop) (ta : TE) : TE := fun σ H Q => ta σ H fun x H1 => r x H1 Q
noncomputable def rI (C : Int → Int → Prop) (g : Int → Int → V) : R2 := fun x y H Q => ∃ i j, x = .int i ∧ y = .int j ∧ C i j ∧ Q (g i j) H
noncomputable def rI0 (g : Int → Int → V) : R2 := fun x y H Q => ∃ i j, x = .int i ∧ y = .int j ∧ Q (g i j) H
noncomputable def rU (g : Int → V) : V → Hp → VK → Prop := fun x H Q => ∃ i, x = .int i ∧ Q (g i) H

section
variable {X : Cx} {a b c : Expr} {ta tb tc : TE} {pos : Pos}

theorem binT (ha : PE X a ta) (hb : PE X b tb) {pins : List (Addr × Obj)} {s : Shared} {σ : St} {H : Hp} {R : V → V → Hp → Prop} (I : Inv X pins σ H s)
    (h : ta σ H fun x H1 => tb σ H1 fun y H2 => R x y H2) {Q : Value → Shared → Prop} {f : Value → Value → Sem Value}
    (hf : ∀ v u s2 x y H2, Inv X pins σ H2 s2 → RelV x v → RelV y u → R x y H2 → wpAny (model X.prog X.w) X.A (f v u) Q X.xe s2) :
    wpAny (model X.prog X.w) X.A (eval a X.env) (fun v s₁ => wpAny (model X.prog X.w) X.A (eval b X.env) (fun u s₂ => wpAny (model X.prog X.w) X.A (f v u) Q X.xe s₂) X.xe s₁) X.xe s := by
  refine thn (ha pins s σ H _ I h) fun v s1 ⟨x, H1, I1, r1, q1⟩ => ?_
  refine thn (hb pins s1 σ H1 _ I1 q1) fun u s2 ⟨y, H2, I2, r2, q2⟩ => ?_
  exact hf v u s2 x y H2 I2 r1 r2 q2

theorem pe_op {op : Operator} {r : R2} (ho : OpR X (binaryOp op) r) (ha : PE X a ta) (hb : PE X b tb) : PE X (.BinOp a op b pos) (tOp r ta tb) := by
  intro pins s σ H Q I h
  exact wpAny_BinOp (binT ha hb I h fun v u s2 x y H2 I2 rx ry q => ho pins s2 σ H2 x y v u Q I2 rx ry q)
theorem pe_un {op : UnaryOp} {r : V → Hp → VK → Prop} (ho : UnR X (unaryOp op) r) (ha : PE X a ta) : PE X (.UnaryOp op a pos) (tUn r ta) := by
  intro pins s σ H Q I h
  exact UnaryOp_ (thn (ha pins s σ H _ I h) fun v s1 ⟨x, H1, I1, r1, q1⟩ => ho pins s1 σ H1 x v Q I1 r1 q1)
theorem opI {f : Value → Value → Sem Value} {C : Int → Int → Prop} {g : Int → Int → Int}
    (rule : ∀ (i j : Int) (t u : Tok) (s : Shared) (Q : Value → Shared → Prop) (E : Value → Shared → Prop), C i j → Q (.int (g i j) s.toks) { s with toks := s.toks + 1 } → wpAny (model X.prog X.w) X.A (f (.int i t) (.int j u)) Q E s) :
    OpR X f (rI C fun i j => .int (g i j)) := by
  intro pins s σ H x y v u Q I rx ry h
  refine L2.put_away fun G'409x4 h'409x4 => ?_
  obtain ⟨i, j, rfl, rfl, hc, q⟩ := h
  refine h'409x4 ?_
  obtain ⟨t, rfl⟩ := rx
  obtain ⟨t', rfl⟩ := ry
  exact rule i j t t' s _ _ hc ⟨.int (g i j), H, I.tok _, ⟨_, rfl⟩, q⟩
theorem opI0 {f : Value → Value → Sem Value} {g : Int → Int → Int}
    (rule : ∀ (i j : Int) (t u : Tok) (s : Shared) (Q : Value → Shared → Prop) (E : Value → Shared → Prop), Q (.int (g i j) s.toks) { s with toks := s.toks + 1 } → wpAny (model X.prog X.w) X.A (f (.int i t) (.int j u)) Q E s) :
    OpR X f (rI0 fun i j => .int (g i j)) := by
  intro pins s σ H x y v u Q I rx ry h
  refine L2.put_away fun G'410x4 h'410x4 => ?_
  obtain ⟨i, j, rfl, rfl, q⟩ := h
  refine h'410x4 ?_
  obtain ⟨t, rfl⟩ := rx
  obtain ⟨t', rfl⟩ := ry
  exact rule i j t t' s _ _ ⟨.int (g i j), H, I.tok _, ⟨_, rfl⟩, q⟩
theorem opB0 {f : Value → Value → Sem Value} {g : Int → Int → Bool}
    (rule : ∀ (i j : Int) (t u : Tok) (s : Shared) (Q : Value → Shared → Prop) (E : Value → Shared → Prop), Q (.bool (g i j)) s → wpAny (model X.prog X.w) X.A (f (.int i t) (.int j u)) Q E s) :
    OpR X f (rI0 fun i j => .bl (g i j)) := by
  intro pins s σ H x y v u Q I rx ry h
  refine L2.put_away fun G'411x4 h'411x4 => ?_
  obtain ⟨i, j, rfl, rfl, q⟩ := h
  refine h'411x4 ?_
  obtain ⟨t, rfl⟩ := rx
  obtain ⟨t', rfl⟩ := ry
  exact rule i j t t' s _ _ ⟨.bl (g i j), H, I, rfl, q⟩

noncomputable def CPow (i j : Int) : Prop := 0 ≤ j ∧ j ≤ 1000000 ∧ i.natAbs < 2 ^ 64
theorem op_add : OpR X (binaryOp .Add) (rI0 fun i j => .int (i + j)) := opI0 fun _ _ _ _ _ _ _ q => add_int q
theorem op_sub : OpR X (binaryOp .Sub) (rI0 fun i j => .int (i - j)) := opI0 fun _ _ _ _ _ _ _ q => sub_int q
theorem op_mod : OpR X (binaryOp .Mod) (rI (fun _ j => 0 < j) fun i j => .int (i % j)) := opI fun i j _ _ _ _ _ hc q => by
  have h1 : (0 : Int) < j := hc
  exact mod_int' (by (clear h1; omega)) (by rw [Int.fmod_eq_emod_of_nonneg i (by (clear h1; omega))]; exact q)
theorem op_pow : OpR X (binaryOp .Pow) (rI CPow fun i j => .int (i ^ j.toNat)) := opI fun _ _ _ _ _ _ _ hc q => pow_int_small hc.1 hc.2.1 hc.2.2 q
theorem unI {f : Value → Sem Value} {g : Int → Int}
    (rule : ∀ (i : Int) (t : Tok) (s : Shared) (Q : Value → Shared → Prop) (E : Value → Shared → Prop), Q (.int (g i) s.toks) { s with toks := s.toks + 1 } → wpAny (model X.prog X.w) X.A (f (.int i t)) Q E s) :
    UnR X f (rU fun i => .int (g i)) := by
  intro pins s σ H x v Q I rx h
  refine L2.put_away fun G'441x4 h'441x4 => ?_
  obtain ⟨i, rfl, q⟩ := h
  refine h'441x4 ?_
  obtain ⟨t, rfl⟩ := rx
  exact rule i t s _ _ ⟨.int (g i), H, I.tok _, ⟨_, rfl⟩, q⟩
theorem un_neg : UnR X (unaryOp .USub) (rU fun i => .int (-i)) := unI fun _ _ _ _ _ q => neg_int q
end

noncomputable def scal : V → V → Bool
  | .non, .non => true | .non, .int _ => true | .int _, .non => true | .non, .bl _ => true | .bl _, .non => true | .non, .str _ => true | .str _, .non => true
  | .int _, .int _ => true | .bl _, .bl _ => true | .str _, .str _ => true | .byt _, .byt _ => true
  | .int _, .str _ => true | .str _, .int _ => true | .bl _, .str _ => true | .str _, .bl _ => true
  | _, _ => false
noncomputable def rEq : R2 := fun x y H Q => scal x y = true ∧ Q (.bl (decide (x = y))) H
noncomputable def rNe : R2 := fun x y H Q => scal x y = true ∧ Q (.bl (!decide (x = y))) H

theorem dec_int {i j : Int} : decide (V.int i = V.int j) = (i == j) := by
  rw [Bool.eq_iff_iff]
  simp
theorem dec_bl {i j : Bool} : decide (V.bl i = V.bl j) = (i == j) := by
  rw [Bool.eq_iff_iff]
  simp
theorem dec_str {i j : Str} : decide (V.str i = V.str j) = (i == j) := by
  rw [Bool.eq_iff_iff]
  simp
theorem dec_byt {i j : Array UInt8} : decide (V.byt i = V.byt j) = (i.toList == j.toList) := by
  rw [Bool.eq_iff_iff]
  cases i
  cases j
  simp

section
variable {X : Cx} {a b c : Expr} {ta tb tc : TE} {pos : Pos}
theorem fin_bl {pins : List (Addr × Obj)} {σ : St} {H : Hp} {s : Shared} {Q : VK} {k k' : Bool} (I : Inv X pins σ H s) (q : Q (.bl k) H) (e : k = k') : EP X pins σ Q (.bool k') s := by
  subst e
  exact ⟨.bl k, H, I, rfl, q⟩
theorem op_eq : OpR X (compareOp .Eq) rEq := by
  intro pins s σ H x y v u Q I rx ry h
  obtain ⟨hs, q⟩ := h
  cases x with
  | non =>
    cases rx
    cases y with
    | non => cases ry; exact PySem.EqNone.eq_none_none (fin_bl I q (by simp))
    | bl j => cases ry; exact PySem.EqNone.eq_none_bool (fin_bl I q (by simp))
    | int j => obtain ⟨t', rfl⟩ := ry; exact PySem.EqNone.eq_none_int (fin_bl I q (by simp))
    | str j => obtain ⟨t', rfl⟩ := ry; exact PySem.EqNone.eq_none_str (fin_bl I q (by simp))
    | _ => exact absurd (show false = true from hs) Bool.false_ne_true
  | bl i =>
    cases rx
    cases y with
    | non => cases ry; exact PySem.EqNone.eq_bool_none (fin_bl I q (by simp))
    | bl j => cases ry; exact eq_bool (fin_bl I q dec_bl)
    | str j => obtain ⟨t', rfl⟩ := ry; exact PySem.EqMixed.eq_bool_str (fin_bl I q (by simp))
    | _ => exact absurd (show false = true from hs) Bool.false_ne_true
  | int i =>
    obtain ⟨t, rfl⟩ := rx
    cases y with
    | non => cases ry; exact PySem.EqNone.eq_int_none (fin_bl I q (by simp))
    | int j => obtain ⟨t', rfl⟩ := ry; exact eq_int (fin_bl I q dec_int)
    | str j => obtain ⟨t', rfl⟩ := ry; exact PySem.EqMixed.eq_int_str (fin_bl I q (by simp))
    | _ => exact absurd (show false = true from hs) Bool.false_ne_true
  | str i =>
    obtain ⟨t, rfl⟩ := rx
    cases y with
    | non => cases ry; exact PySem.EqNone.eq_str_none (fin_bl I q (by simp))
    | bl j => cases ry; exact PySem.EqMixed.eq_str_bool (fin_bl I q (by simp))
    | int j => obtain ⟨t', rfl⟩ := ry; exact PySem.EqMixed.eq_str_int (fin_bl I q (by simp))
    | str j => obtain ⟨t', rfl⟩ := ry; exact eq_str (fin_bl I q dec_str)
    | _ => exact absurd (show false = true from hs) Bool.false_ne_true
  | byt i =>
    obtain ⟨t, rfl⟩ := rx
    cases y with
    | byt j => obtain ⟨t', rfl⟩ := ry; exact PySem.W.eq_bytes (fin_bl I q dec_byt)
    | _ => exact absurd (show false = true from hs) Bool.false_ne_true
  | _ => cases y <;> exact absurd (show false = true from hs) Bool.false_ne_true
theorem op_ne : OpR X (compareOp .NotEq) rNe := by
  intro pins s σ H x y v u Q I rx ry h
  obtain ⟨hs, q⟩ := h
  cases x with
  | non =>
    cases rx
    cases y with
    | non => cases ry; exact PySem.EqNone.ne_none_none (fin_bl I q (by simp))
    | bl j => cases ry; exact PySem.EqNone.ne_none_bool (fin_bl I q (by simp))
    | int j => obtain ⟨t', rfl⟩ := ry; exact PySem.EqNone.ne_none_int (fin_bl I q (by simp))
    | str j => obtain ⟨t', rfl⟩ := ry; exact PySem.EqNone.ne_none_str (fin_bl I q (by simp))
    | _ => exact absurd (show false = true from hs) Bool.false_ne_true
  | bl i =>
    cases rx
    cases y with
    | non => cases ry; exact PySem.EqNone.ne_bool_none (fin_bl I q (by simp))
    | bl j => cases ry; exact ne_bool (fin_bl I q (congrArg not dec_bl))
    | str j => obtain ⟨t', rfl⟩ := ry; exact PySem.EqMixed.ne_bool_str (fin_bl I q (by simp))
    | _ => exact absurd (show false = true from hs) Bool.false_ne_true
  | int i =>
    obtain ⟨t, rfl⟩ := rx
    cases y with
    | non => cases ry; exact PySem.EqNone.ne_int_none (fin_bl I q (by simp))
    | int j => obtain ⟨t', rfl⟩ := ry; exact ne_int (fin_bl I q (congrArg not dec_int))
    | str j => obtain ⟨t', rfl⟩ := ry; exact PySem.EqMixed.ne_int_str (fin_bl I q (by simp))
    | _ => exact absurd (show false = true from hs) Bool.false_ne_true
  | str i =>
    obtain ⟨t, rfl⟩ := rx
    cases y with
    | non => cases ry; exact PySem.EqNone.ne_str_none (fin_bl I q (by simp))
    | bl j => cases ry; exact PySem.EqMixed.ne_str_bool (fin_bl I q (by simp))
    | int j => obtain ⟨t', rfl⟩ := ry; exact PySem.EqMixed.ne_str_int (fin_bl I q (by simp))
    | str j => obtain ⟨t', rfl⟩ := ry; exact ne_str (fin_bl I q (congrArg not dec_str))
    | _ => exact absurd (show false = true from hs) Bool.false_ne_true
  | byt i =>
    obtain ⟨t, rfl⟩ := rx
    cases y with
    | byt j => obtain ⟨t', rfl⟩ := ry; exact PySem.W.ne_bytes (fin_bl I q (congrArg not dec_byt))
    | _ => exact absurd (show false = true from hs) Bool.false_ne_true
  | _ => cases y <;> exact absurd (show false = true from hs) Bool.false_ne_true

theorem op_lt : OpR X (compareOp .Lt) (rI0 fun i j => .bl (decide (i < j))) := opB0 fun _ _ _ _ _ _ _ q => lt_int q
theorem op_le : OpR X (compareOp .LtE) (rI0 fun i j => .bl (decide (i ≤ j))) := opB0 fun _ _ _ _ _ _ _ q => le_int q
theorem op_gt : OpR X (compareOp .Gt) (rI0 fun i j => .bl (decide (j < i))) := opB0 fun _ _ _ _ _ _ _ q => gt_int q
theorem op_ge : OpR X (compareOp .GtE) (rI0 fun i j => .bl (decide (j ≤ i))) := opB0 fun _ _ _ _ _ _ _ q => ge_int q
theorem nomark (b : Expr) {op : CmpOp} (h : op ≠ .In := by decide) (h2 : op ≠ .NotIn := by decide) : behindInMarks op b = false := by
  have e1 : (op == CmpOp.In) = false := by cases op <;> first | rfl | exact absurd rfl h
  have e2 : (op == CmpOp.NotIn) = false := by cases op <;> first | rfl | exact absurd rfl h2
  cases b <;> simp [behindInMarks, e1, e2]
theorem pe_cmpR {op : CmpOp} {r : R2} (ho : OpR X (compareOp op) r) (ha : PE X a ta) (hb : PE X b tb) (hm : behindInMarks op b = false) : PE X (.Compare a [op] [b] pos) (tOp r ta tb) := by
  intro pins s σ H Q I h
  exact wpAny_Compare1 (binT ha hb I h fun v u s2 x y H2 I2 rx ry q => ho pins s2 σ H2 x y v u Q I2 rx ry q) hm
noncomputable def tTest (t : TE) : TT := fun σ H Q => t σ H fun x H' => ∃ k, x = .bl k ∧ Q k H'
theorem pt_cmpR {op : CmpOp} {r : R2} (ho : OpR X (compareOp op) r) (ha : PE X a ta) (hb : PE X b tb) (hm : behindInMarks op b = false) : PT X (.Compare a [op] [b] pos) (tTest (tOp r ta tb)) := by
  intro pins s σ H Q I h
  refine wpAny_isTrue_Compare1 (thn (ha pins s σ H _ I h) fun v s1 ⟨x, H1, I1, r1, q1⟩ => thn (hb pins s1 σ H1 _ I1 q1) fun u s2 ⟨y, H2, I2, r2, q2⟩ =>
    thn (ho pins s2 σ H2 x y v u _ I2 r1 r2 q2) fun c s3 ⟨z, H3, I3, r3, k, e, q3⟩ => ?_) hm
  subst e
  cases r3
  exact wpAny_truthy_bool ⟨H3, I3, q3⟩
noncomputable def tChain (r r' : R2) (ta tb tc : TE) : TE := fun σ H Q => ta σ H fun x H1 => tb σ H1 fun y H2 => r x y H2 fun z H3 => ∃ k, z = .bl k ∧
  (if k = true then tc σ H3 fun w' H4 => r' y w' H4 Q else Q (.bl false) H3)
theorem pe_chain {op op' : CmpOp} {r r' : R2} (ho : OpR X (compareOp op) r) (ho' : OpR X (compareOp op') r') (ha : PE X a ta) (hb : PE X b tb) (hc : PE X c tc)
    (hm : lastMarks [op, op'] [b, c] = false := by with_unfolding_all rfl) : PE X (.Compare a [op, op'] [b, c] pos) (tChain r r' ta tb tc) := by
  intro pins s σ H Q I h
  refine Compare_chain (thn (ha pins s σ H _ I h) fun v s1 ⟨x, H1, I1, r1, q1⟩ => chain_link (thn (hb pins s1 σ H1 _ I1 q1) fun u s2 ⟨y, H2, I2, r2, q2⟩ =>
    thn (ho pins s2 σ H2 x y v u _ I2 r1 r2 q2) fun d s3 ⟨z, H3, I3, r3, k, e, q3⟩ => ?_)) hm
  subst e
  cases r3
  refine wpAny_truthy_bool ?_
  cases k with
  | false => exact ite_ff ⟨.bl false, H3, I3, rfl, q3⟩
  | true => exact ite_tt (chain_last (thn (hc pins s3 σ H3 _ I3 q3) fun w' s4 ⟨z', H4, I4, r4, q4⟩ => ho' pins s4 σ H4 y z' u w' Q I4 r2 r4 q4))
theorem line63 : (sizeLine : Nat) < 2 ^ 63 := by rw [sizeLine_eq]; decide
theorem vals1 {x : V} {us : List Value} (r : Vals [x] us) : ∃ u, us = [u] ∧ RelV x u := by
  cases r with
  | cons r1 r2 => cases r2; exact ⟨_, rfl, r1⟩
theorem vals2 {x y : V} {us : List Value} (r : Vals [x, y] us) : ∃ u w', us = [u, w'] ∧ RelV x u ∧ RelV y w' := by
  cases r with
  | cons r1 r2 =>
    cases r2 with
    | cons r3 r4 => cases r4; exact ⟨_, _, rfl, r1, r3⟩
theorem call_max2 (hc : X.calm = true) : CallR X (.builtin "max") (fun xs H Q => ∃ i j, xs = [.int i, .int j] ∧ Q (.int (if j > i then j else i)) H) := by
  intro pins s σ H xs us Q I r h
  refine L2.put_away fun G'500x2 h'500x2 => ?_
  obtain ⟨i, j, rfl, q⟩ := h
  refine h'500x2 ?_
  refine L2.put_away fun G'500x3 h'500x3 => ?_
  obtain ⟨u, w', rfl, ⟨t, rfl⟩, ⟨t', rfl⟩⟩ := vals2 r
  refine h'500x3 ?_
  refine max_two_ints (I.ok.hd hc) fun h' tk k => ⟨_, H, I.kept k, ?_, q⟩
  by_cases hj : j > i
  · rw [if_pos hj, if_pos hj]; exact ⟨_, rfl⟩
  · rw [if_neg hj, if_neg hj]; exact ⟨_, rfl⟩
theorem call_min2 (hc : X.calm = true) : CallR X (.builtin "min") (fun xs H Q => ∃ i j, xs = [.int i, .int j] ∧ Q (.int (if j < i then j else i)) H) := by
  intro pins s σ H xs us Q I r h
  refine L2.put_away fun G'501x2 h'501x2 => ?_
  obtain ⟨i, j, rfl, q⟩ := h
  refine h'501x2 ?_
  refine L2.put_away fun G'501x3 h'501x3 => ?_
  obtain ⟨u, w', rfl, ⟨t, rfl⟩, ⟨t', rfl⟩⟩ := vals2 r
  refine h'501x3 ?_
  refine min_two_ints (I.ok.hd hc) fun h' tk k => ⟨_, H, I.kept k, ?_, q⟩
  by_cases hj : j < i
  · rw [if_pos hj, if_pos hj]; exact ⟨_, rfl⟩
  · rw [if_neg hj, if_neg hj]; exact ⟨_, rfl⟩
end
end L2

namespace L2
open PySem PySem.Spec PyProof.Rows

structure ObjM (h : Heap) (x dx C : Addr) (mA : Str → Option Value) : Prop where
  obj : h.get? x = some (PySem.W.instObj C dx)
  ns : h.Ns1 dx mA
  ne : dx ≠ x

theorem lookIn_ns {h : Heap} {dx : Addr} {mA : Str → Option Value} (n : h.Ns1 dx mA) : ∃ od, h.get? dx = some od ∧ ∀ name, PySem.W.lookIn name od = some (mA name) := by
  refine L2.put_away fun G'516x1 h'516x1 => ?_
  obtain ⟨o, es, ep, ho, hd, hk, _, hm⟩ := n
  refine h'516x1 ?_
  refine ⟨o, ho, fun name => ?_⟩
  have e := hm name
  unfold nsFind findBy at e
  rw [← Array.find?_toList] at e
  unfold PySem.W.lookIn
  rw [hd]
  dsimp only
  split
  · rename_i y q
    rw [q] at e
    exact congrArg some e
  · rename_i q
    rw [q] at e
    have a : es.toList.any (·.refKey) = false := by
      rw [List.any_eq_false]
      intro y hy
      refine L2.put_away fun G'516x18 h'516x18 => ?_
      obtain ⟨z, t, hkey⟩ := hk y (Array.mem_toList_iff.mp hy)
      refine h'516x18 ?_
      simp [DictEntry.refKey, hkey]
    have a' : ¬ es.toList.any (·.refKey) = true := by rw [a]; exact Bool.false_ne_true
    rw [if_neg a']
    exact congrArg some e

theorem ObjM.look {h : Heap} {x dx C : Addr} {mA : Str → Option Value} (I : ObjM h x dx C mA) : ∃ od, PySem.W.InstAt h x (PySem.W.instObj C dx) C (some od) ∧ ∀ name, PySem.W.lookIn name od = some (mA name) :=
  let ⟨od, ho, hl⟩ := lookIn_ns I.ns
  ⟨od, ⟨I.obj, rfl, rfl, ho⟩, hl⟩

section
variable {prog : Program} {w : World} {A : Around} {E : Value → Shared → Prop} {s : Shared} {K : PySem.W.Frag} {x dx C f : Addr} {mA : Str → Option Value} {name : Str} {v : Value}

end

noncomputable def putF (f : Str) (v : V) : List (Str × V) → List (Str × V)
  | [] => [(f, v)]
  | (g, x) :: r => if g = f then (g, v) :: r else (g, x) :: putF f v r
section
variable {P : Program} {w : World} {H H' : Hp} {h h' : Heap} {a C dx : Addr} {fs fs' : List (Str × V)}
theorem ins_get (hok : HOk P w H h) (e : H a = some (.ins C dx fs)) : ∃ mA, ObjM h a dx C mA ∧ (∀ f, RelO (fs.lookup f) (mA f)) ∧ PySem.Within mA (fs.map (·.1)) ∧ fs.length ≤ 1000 ∧ H dx = some (.own a) := by
  refine L2.put_away fun G'537x1 h'537x1 => ?_
  obtain ⟨d, z, ne, ob, mA, n, r, q⟩ := (show ObjOk P w H h a (.ins C dx fs) from hok a _ e)
  refine h'537x1 ?_
  exact ⟨mA, ⟨ob, n, ne⟩, r, q, z, d⟩
end

structure Cls (K : PySem.W.Frag) (C : Addr) : Prop where
  pg : PySem.W.plainGet K C Str.empty = true
  hd : PySem.W.hasDictIn K C = true
  po : PySem.W.plainOver K C = true
  sa : PySem.W.findIn K (.ref C) "__setattr__" = some (some (.builtin "object.__setattr__"))
theorem Cls.get {K : PySem.W.Frag} {C : Addr} (c : Cls K C) (f : Str) : PySem.W.plainGet K C f = true := c.pg
noncomputable def NoAttr (K : PySem.W.Frag) (C : Addr) (f : Str) : Prop := PySem.W.findIn K (.ref C) f = some none
section
variable {X : Cx} {pins : List (Addr × Obj)} {σ : St} {H : Hp} {s : Shared} {a C dx : Addr} {fs : List (Str × V)} {f : Str} {v : V} {A : Around} {E : Value → Shared → Prop}

theorem Inv.made (I : Inv X pins σ H s) : Inv X pins σ (upd (upd H s.heap.objs.size (.own (s.heap.objs.size + 1))) (s.heap.objs.size + 1) (.ins C s.heap.objs.size []))
    { s with heap := (s.heap.push PySem.W.emptyDict).push (PySem.W.instObj C s.heap.objs.size) } := by
  have e1 : (s.heap.push PySem.W.emptyDict).get? s.heap.objs.size = some PySem.W.emptyDict := Heap.get?_push_size s.heap rfl
  have e2 : ((s.heap.push PySem.W.emptyDict).push (PySem.W.instObj C s.heap.objs.size)).get? (s.heap.objs.size + 1) = some (PySem.W.instObj C s.heap.objs.size) := by
    have := Heap.get?_push_size (s.heap.push PySem.W.emptyDict) (o := PySem.W.instObj C s.heap.objs.size) rfl
    rwa [Heap.size_push] at this
  have e3 : (s.heap.push PySem.W.emptyDict).Ns s.heap.objs.size (fun _ => none) := ⟨PySem.W.emptyDict, #[], _, e1, rfl, (fun e he => absurd he (by simp)), fun _ => rfl⟩
  have I1 := I.laid (a := s.heap.objs.size) (o := .own (s.heap.objs.size + 1)) (h' := s.heap.push PySem.W.emptyDict) (t' := s.toks) (fun b u q => Heap.get?_push_of_some _ q) (Nat.le_refl _) ⟨_, e1⟩
  refine I1.laid (a := s.heap.objs.size + 1) (o := .ins C s.heap.objs.size []) (t' := s.toks) (fun b u q => Heap.get?_push_of_some _ q) (Nat.le_of_eq (Heap.size_push _ _)) ?_
  have ne : s.heap.objs.size ≠ s.heap.objs.size + 1 := Nat.ne_of_lt (Nat.lt_succ_self _)
  refine ⟨by rw [upd_ne ne, upd_same], Nat.zero_le _, ne, e2, fun _ => none, (Heap.Ns1.of_empty e3).at fun o q => Heap.get?_push_of_some _ q, fun _ => True.intro, fun y hy => absurd rfl hy⟩

end

noncomputable def tFld (K : PySem.W.Frag) (ta : TE) (f : Str) : TE := fun σ H Q => ta σ H fun x H1 => ∃ a C dx fs v, x = .ref a ∧ H1 a = some (.ins C dx fs) ∧ Cls K C ∧ NoAttr K C f ∧ fs.lookup f = some v ∧ Q v H1
noncomputable def sFld (K : PySem.W.Frag) (ta tv : TE) (f : Str) : TS := fun D σ H => tv σ H fun y H1 => ta σ H1 fun x H2 => ∃ a C dx fs, x = .ref a ∧ H2 a = some (.ins C dx fs) ∧ Cls K C ∧ NoAttr K C f ∧ fs.length < 1000 ∧
  D.nx σ (upd H2 a (.ins C dx (putF f y fs)))
noncomputable def sFldAug (K : PySem.W.Frag) (ta tv : TE) (rd : V → V → Hp → VK → Prop) (f : Str) : TS := fun D σ H => ta σ H fun x H1 => ∃ a C dx fs v, x = .ref a ∧ H1 a = some (.ins C dx fs) ∧ Cls K C ∧ NoAttr K C f ∧ fs.lookup f = some v ∧
  tv σ H1 fun y H2 => rd v y H2 fun z H3 => ∃ dx' fs', H3 a = some (.ins C dx' fs') ∧ fs'.length < 1000 ∧ D.nx σ (upd H3 a (.ins C dx' (putF f z fs')))

section
variable {X : Cx} {o e value : Expr} {f : Str} {pos pos' tpos : Pos} {ta tv : TE}
end

section
variable {X : Cx} {pins : List (Addr × Obj)} {σ : St} {H : Hp} {s : Shared} {A : Around} {E : Value → Shared → Prop} {Q : Value → Shared → Prop} {c : Value} {b : Bool}
inductive TyOf (K : PySem.W.Frag) (H : Hp) : V → Value → Prop where
  | non : TyOf K H .non (.type "NoneType")
  | bl (x : Bool) : TyOf K H (.bl x) (.type "bool")
  | int (i : Int) : TyOf K H (.int i) (.type "int")
  | str (x : Str) : TyOf K H (.str x) (.type "str")
  | flt (x : UInt64) : TyOf K H (.flt x) (.type "float")
  | lst {a : Addr} {xs : List V} (e : H a = some (.lst xs)) : TyOf K H (.ref a) (.type "list")
  | frz {a : Addr} {o : Obj} {xs : List V} (e : H a = some (.frz o (.lst xs))) : TyOf K H (.ref a) (.type "list")
  | tup {a : Addr} {xs : List V} (e : H a = some (.tup xs)) : TyOf K H (.ref a) (.type "tuple")
  | dK {a : Addr} {kvs : List (Key × V)} (e : H a = some (.dK kvs)) : TyOf K H (.ref a) (.type "dict")
  | dT {a : Addr} {kvs : List (List Key × V)} (e : H a = some (.dT kvs)) : TyOf K H (.ref a) (.type "dict")
  | ins {a C dx : Addr} {fs : List (Str × V)} (e : H a = some (.ins C dx fs)) (cl : Cls K C) (ha : PySem.W.findIn K (.ref C) "__class__" = some (some (.builtin "object.__class__")))
      (hn : PySem.W.specialIn K (.builtin "object.__class__") "__get__" = some (some (.builtin "getset_descriptor.__get__"))) (htk : PySem.W.takesIn K (.builtin "object.__class__") = some true)
      (hm : PySem.W.mroIn K C (.type "object") = some true) : TyOf K H (.ref a) (.ref C)
theorem isinst_ok {x : V} {u t : Value} (I : Inv X pins σ H s) (rx : RelV x u) (ty : TyOf X.K H x t) (e : PySem.W.kitOne X.K t c = some b) (h : ∀ tk, Q (.bool b) { s with toks := tk }) :
    wpAny (model X.prog X.w) A (call (.builtin "isinstance") [u, c]) Q E s := by
  cases ty with
  | non => cases (show u = Value.none from rx); exact PySem.W.kia_one PySem.W.kitx_none I.kIn True.intro e (fun z => nomatch z) h
  | bl y => cases (show u = Value.bool y from rx); exact PySem.W.kia_one PySem.W.kitx_bool I.kIn True.intro e (fun z => nomatch z) h
  | int i => obtain ⟨t, q⟩ := (show ∃ t, u = Value.int i t from rx); cases q; exact PySem.W.kia_one PySem.W.kitx_int I.kIn True.intro e (fun z => nomatch z) h
  | str y => obtain ⟨t, q⟩ := (show ∃ t, u = Value.str y t from rx); cases q; exact PySem.W.kia_one PySem.W.kitx_str I.kIn True.intro e (fun z => nomatch z) h
  | flt y => obtain ⟨t, q⟩ := (show ∃ t, u = Value.float y t from rx); cases q; exact PySem.W.kia_one PySem.W.kitx_float I.kIn True.intro e (fun z => nomatch z) h
  | @lst a xs ea =>
    cases (show u = Value.ref a from rx)
    refine L2.put_away fun G'577x10 h'577x10 => ?_
    obtain ⟨_, _, n, _, h1⟩ := (show ObjOk X.prog X.w H s.heap a (.lst xs) from I.hok a _ ea)
    refine h'577x10 ?_
    exact PySem.W.kia_one PySem.W.kitx_list I.kIn ⟨_, h1, rfl⟩ e (fun z => nomatch z) h
  | @frz a ob xs ea =>
    cases (show u = Value.ref a from rx)
    refine L2.put_away fun G'577x14 h'577x14 => ?_
    obtain ⟨_, _, _, n, _, h1⟩ := (show ObjOk X.prog X.w H s.heap a (.frz ob (.lst xs)) from I.hok a _ ea)
    refine h'577x14 ?_
    exact PySem.W.kia_one PySem.W.kitx_list I.kIn ⟨_, h1, rfl⟩ e (fun z => nomatch z) h
  | @tup a xs ea =>
    cases (show u = Value.ref a from rx)
    refine L2.put_away fun G'577x18 h'577x18 => ?_
    obtain ⟨_, _, _, p⟩ := (show ObjOk X.prog X.w H s.heap a (.tup xs) from I.hok a _ ea)
    refine h'577x18 ?_
    refine L2.put_away fun G'577x19 h'577x19 => ?_
    obtain ⟨o, h1, h2, _⟩ := p
    refine h'577x19 ?_
    exact PySem.W.kia_one PySem.W.kitx_tuple I.kIn ⟨o, h1, h2⟩ e (fun z => nomatch z) h
  | @dK a kvs ea =>
    cases (show u = Value.ref a from rx)
    refine L2.put_away fun G'577x23 h'577x23 => ?_
    obtain ⟨_, _, vs, _, p⟩ := (show ObjOk X.prog X.w H s.heap a (.dK kvs) from I.hok a _ ea)
    refine h'577x23 ?_
    refine L2.put_away fun G'577x24 h'577x24 => ?_
    obtain ⟨o, es, ep, h1, h2, _⟩ := p
    refine h'577x24 ?_
    exact PySem.W.kia_one PySem.W.kitx_dict I.kIn ⟨o, h1, h2.1⟩ e (fun z => nomatch z) h
  | @dT a kvs ea =>
    cases (show u = Value.ref a from rx)
    refine L2.put_away fun G'577x28 h'577x28 => ?_
    obtain ⟨_, _, xs, _, o, es, ep, h1, h2, _⟩ := (show ObjOk X.prog X.w H s.heap a (.dT kvs) from I.hok a _ ea)
    refine h'577x28 ?_
    exact PySem.W.kia_one PySem.W.kitx_dict I.kIn ⟨o, h1, h2.1⟩ e (fun z => nomatch z) h
  | @ins a C dx fs ea cl ha hn htk hm =>
    cases (show u = Value.ref a from rx)
    refine L2.put_away fun G'577x32 h'577x32 => ?_
    obtain ⟨mA, O, _⟩ := ins_get I.hok ea
    refine h'577x32 ?_
    refine L2.put_away fun G'577x33 h'577x33 => ?_
    obtain ⟨od, J, _⟩ := O.look
    refine h'577x33 ?_
    exact PySem.W.kia_one (PySem.W.kitx_own (cl.get _) cl.hd ha hn htk hm) I.kIn J e (fun z => nomatch z) h
end
end L2

namespace L2
open PySem PySem.Spec PyProof.Rows

structure Room (k : Nat) (A : Around) : Prop where
  hd : A.handled = none
  dp : A.depth + 3 * k + 5 < recursionLimit
  un : A.units + 16 * k + 200 < cLine
theorem Room.mono {j k : Nat} {A : Around} (r : Room k A) (h : j ≤ k) : Room j A := ⟨r.hd, by have := r.dp; omega, by have := r.un; omega⟩
theorem Room.deeper {k : Nat} {A : Around} (r : Room (k + 1) A) (env : Env) : Room k (A.deeper env) :=
  ⟨r.hd, by have := r.dp; show A.depth + 1 + 3 * k + 5 < _; omega, by have := r.un; show A.units + 3 + 16 * k + 200 < _; omega⟩
theorem Room.in1 {k : Nat} {A : Around} (r : Room (k + 1) A) : Room k A.in1 :=
  ⟨r.hd, by have := r.dp; show A.depth + 3 * k + 5 < _; omega, by have := r.un; show A.units + 1 + 16 * k + 200 < _; omega⟩
theorem Room.depth {k : Nat} {A : Around} (r : Room k A) : A.depth < recursionLimit := by have := r.dp; omega
theorem Room.units {k : Nat} {A : Around} (r : Room k A) : A.units + 64 < cLine := by have := r.un; omega
noncomputable def tNil : TA := fun _ H Q => Q [] H
noncomputable def tCons (ta : TE) (tr : TA) : TA := fun σ H Q => ta σ H fun x H1 => tr σ H1 fun xs H2 => Q (x :: xs) H2
section
variable {X : Cx} {e : Expr} {es : List Expr} {te : TE} {t : TA} {pos : Pos}
theorem pa_nil : PA X [] tNil := fun _ _ _ _ H Q I h => Calls.spliced_nil ⟨[], H, I, .nil, h⟩
theorem pa_cons (ha : PE X e te) (hr : PA X es t) (hs : starEach (e :: es) X.env = (false, eval e X.env) :: starEach es X.env := by rfl) : PA X (e :: es) (tCons te t) := by
  intro pos pins s σ H Q I h
  rw [hs]
  show wpAny _ _ (spliced ((false, eval e X.env) :: backTo pos (starEach es X.env))) _ _ s
  refine Calls.spliced_cons (thn (ha pins s σ H _ I h) fun u s1 ⟨x, H1, I1, r1, q1⟩ => ?_)
  exact thn (hr pos pins s1 σ H1 _ I1 q1) fun us s2 ⟨xs, H2, I2, r2, q2⟩ => ⟨x :: xs, H2, I2, .cons r1 r2, q2⟩

noncomputable def tTup (t : TA) : TE := fun σ H Q => t σ H fun xs H1 => xs.length ≤ sizeLine ∧ ∀ p, H1 p = none → Q (.ref p) (upd H1 p (.tup xs))
noncomputable def tLst (t : TA) : TE := fun σ H Q => t σ H fun xs H1 => xs.length ≤ sizeLine ∧ ∀ p, H1 p = none → Q (.ref p) (upd H1 p (.lst xs))
theorem pe_tup {x1} (h : PA X es t) : PE X (.Tuple es x1 pos) (tTup t) := by
  intro pins s σ H Q I hq
  refine wpAny_Tuple_spliced (thn (h pos pins s σ H _ I hq) fun us s1 ⟨xs, H1, I1, r, z, q⟩ => ⟨by rw [← r.length]; exact z, ?_⟩)
  have hf : H1 s1.heap.objs.size = none := I1.hok.fresh (Nat.le_refl _)
  refine ⟨.ref s1.heap.objs.size, upd H1 s1.heap.objs.size (.tup xs), I1.laid (t' := s1.toks) (fun b u e => Heap.get?_push_of_some _ e) (Nat.le_refl _) ?_, rfl, q _ hf⟩
  exact ⟨z, us, r, ⟨_, Heap.get?_push_size _ rfl, rfl, _, rfl⟩⟩
theorem pe_lst (h : PA X es t) : PE X (.List es pos) (tLst t) := by
  intro pins s σ H Q I hq
  refine wpAny_List_spliced (thn (h pos pins s σ H _ I hq) fun us s1 ⟨xs, H1, I1, r, z, q⟩ => ⟨by rw [← r.length]; exact z, ?_⟩)
  have hf : H1 s1.heap.objs.size = none := I1.hok.fresh (Nat.le_refl _)
  refine ⟨.ref s1.heap.objs.size, upd H1 s1.heap.objs.size (.lst xs), I1.laid (t' := s1.toks) (fun b u e => Heap.get?_push_of_some _ e) (Nat.le_refl _) ?_, rfl, q _ hf⟩
  exact ⟨z, us, 0, r, Heap.get?_push_size _ rfl⟩
end

noncomputable abbrev Sp := List V → Hp → VK → XK → Prop
noncomputable abbrev CXT := List Env → Hp → Shared → XK → Value → Shared → Prop

structure Env0 (P : Program) (w : World) (K : PySem.W.Frag) (mg : Str → Option Value) (base : Heap) (A : Around) (outer : List Env) (s : Shared) (H : Hp) : Prop where
  frames : A.frames = some outer
  mod : Mod K mg base
  bs : ∀ b o, base.get? b = some o → s.heap.get? b = some o ∧ H b = none
  bsz : base.objs.size ≤ s.heap.objs.size
  funs : s.heap.FunFrames base outer
  frf : ∀ b ∈ frs outer, H b = none
  hok : HOk P w H s.heap
  bare : AllBare s.gens
noncomputable def CE (outer : List Env) (P : Program) (w : World) (H : Hp) (s : Shared) (Q : VK) (u : Value) (s' : Shared) : Prop :=
  ∃ v H', s'.os = s.os ∧ AllBare s'.gens ∧ Un (frs outer) [] H H' s.heap s'.heap ∧ HOk P w H' s'.heap ∧ RelV v u ∧ Q v H'
noncomputable def CR (CX : CXT) (outer : List Env) (P : Program) (w : World) (H : Hp) (s : Shared) (Q : VK) (E : XK) (r : Result) (s' : Shared) : Prop :=
  match r with
  | .ok (.ret u) => CE outer P w H s Q u s'
  | .ok _ => False
  | .error e => CX outer H s E e s'
structure FnOk (P : Program) (w : World) (K : PySem.W.Frag) (mg : Str → Option Value) (base : Heap) (CX : CXT) (k : Nat) (f : Addr) (fd : FuncData) (ps : List Str) (sp : Sp) : Prop where
  len : ∀ vs H Q E, sp vs H Q E → vs.length = ps.length
  run : ∀ (A : Around) (outer : List Env) (s : Shared) (H : Hp) (args : Args) (us : List Value) (vs : List V) (Q : VK) (E : XK), Room k A → Env0 P w K mg base A outer s H → BindsTo s fd args (ps.zip us) → Vals vs us → sp vs H Q E →
    codeAny (model P w) A (.call (.ref f) args) (CR CX outer P w H s Q E) s
theorem FnOk.mono {P : Program} {w : World} {K : PySem.W.Frag} {mg : Str → Option Value} {base : Heap} {CX : CXT} {j k : Nat} {f : Addr} {fd : FuncData} {ps : List Str} {sp : Sp} (F : FnOk P w K mg base CX j f fd ps sp) (h : j ≤ k) :
    FnOk P w K mg base CX k f fd ps sp := ⟨F.len, fun A outer s H args us vs Q E hr => F.run A outer s H args us vs Q E (hr.mono h)⟩
theorem FnOk.imp {P : Program} {w : World} {K : PySem.W.Frag} {mg : Str → Option Value} {base : Heap} {CX : CXT} {k : Nat} {f : Addr} {fd : FuncData} {ps : List Str} {sp sp' : Sp} (F : FnOk P w K mg base CX k f fd ps sp)
    (h : ∀ vs H Q E, sp' vs H Q E → sp vs H Q E) : FnOk P w K mg base CX k f fd ps sp' :=
  ⟨fun vs H Q E q => F.len vs H Q E (h _ _ _ _ q), fun A outer s H args us vs Q E hr he hb hv hs => F.run A outer s H args us vs Q E hr he hb hv (h _ _ _ _ hs)⟩

theorem Env0.in1 {P : Program} {w : World} {K : PySem.W.Frag} {mg : Str → Option Value} {base : Heap} {A : Around} {outer : List Env} {s : Shared} {H : Hp} (e : Env0 P w K mg base A outer s H) :
    Env0 P w K mg base A.in1 outer s H := ⟨e.frames, e.mod, e.bs, e.bsz, e.funs, e.frf, e.hok, e.bare⟩

section
variable {X : Cx} {pins : List (Addr × Obj)} {σ : St} {H : Hp} {s s' : Shared}
theorem Inv.env0 (I : Inv X pins σ H s) : Env0 X.prog X.w X.K X.mg X.base X.A X.stack s H :=
  ⟨I.ok.frames, I.ok.mod, I.bs, Nat.le_trans I.ok.bsz I.sz, I.stack, I.stkFree, I.hok, I.bare⟩
theorem Inv.after {Q : VK} {u : Value} (I : Inv X pins σ H s) (h : CE X.stack X.prog X.w H s Q u s') : EP X pins σ Q u s' := by
  refine L2.put_away fun G'619x1 h'619x1 => ?_
  obtain ⟨v, H', os, bare, un, hok, r, q⟩ := h
  refine h'619x1 ?_
  refine L2.put_away fun G'619x2 h'619x2 => ?_
  obtain ⟨hh, g, d, t, os'⟩ := s'
  refine h'619x2 ?_
  obtain rfl : os' = s.os := os
  exact ⟨v, H', I.call (h' := hh) (g' := g) (d' := d) (t' := t) (ch := []) un hok bare (fun b z => absurd z (by simp)), r, q⟩
end

noncomputable def tCall (sp : Sp) (dvs : List V) (E : XK) (t : TA) : TE := fun σ H Q => t σ H fun vs H1 => sp (vs ++ dvs) H1 Q E
noncomputable def tMeth (C : Addr) (m : Str) (sp : Sp) (dvs : List V) (E : XK) (ta : TE) (t : TA) : TE := fun σ H Q => ta σ H fun x H1 => ∃ a dx fs, x = .ref a ∧ H1 a = some (.ins C dx fs) ∧ fs.lookup m = none ∧
  t σ H1 fun vs H2 => sp (x :: (vs ++ dvs)) H2 Q E
noncomputable def tMake (C : Addr) (sp : Sp) (dvs : List V) (E : XK) (t : TA) : TE := fun σ H Q => t σ H fun vs H1 => ∀ x dx, H1 x = none → H1 dx = none → dx ≠ x →
  sp (.ref x :: (vs ++ dvs)) (upd (upd H1 dx (.own x)) x (.ins C dx [])) (fun v H2 => v = .non ∧ Q (.ref x) H2) E

noncomputable def Binds (K : PySem.W.Frag) (fd : FuncData) (ps : List Str) (ds : List Value) : Prop :=
  ∀ (s : Shared) (us : List Value), K.In s.heap → (us ++ ds).length = ps.length → BindsTo s fd ⟨us, []⟩ (ps.zip (us ++ ds))
theorem Binds.all {K : PySem.W.Frag} {fd : FuncData} {ps : List Str} (h : ∀ us : List Value, us.length = ps.length → bindArgs fd ⟨us, []⟩ = pure (ps.zip us)) : Binds K fd ps [] := fun s us _ hl => by
  rw [List.append_nil] at hl ⊢
  exact .of_eq (h us hl)

noncomputable def Passes (CX : CXT) (X : Cx) (E : XK) : Prop := ∀ (pins : List (Addr × Obj)) (σ : St) (H : Hp) (s : Shared) (e : Value) (s' : Shared), Inv X pins σ H s → CX X.stack H s E e s' → X.xe e s'

section
variable {X : Cx} {CX : CXT} {k : Nat} {f C : Addr} {fd : FuncData} {ps : List Str} {sp : Sp} {dvs : List V} {ds : List Value} {E : XK} {x m : Str} {p pos apos : Pos} {e o : Expr} {es : List Expr} {ta : TE} {t : TA}

theorem run_fn {pins : List (Addr × Obj)} {σ : St} {H : Hp} {s : Shared} {Q : VK} {us : List Value} {vs : List V} (F : FnOk X.prog X.w X.K X.mg X.base CX k f fd ps sp) (hr : Room k X.A) (hb : Binds X.K fd ps ds) (hd : Vals dvs ds) (hx : Passes CX X E)
    (I : Inv X pins σ H s) (r : Vals vs us) (h : sp (vs ++ dvs) H Q E) : wpAny (model X.prog X.w) X.A (call (.ref f) us) (EP X pins σ Q) X.xe s := by
  have r2 : Vals (vs ++ dvs) (us ++ ds) := r.append hd
  have hl : (us ++ ds).length = ps.length := by rw [← r2.length]; exact F.len _ _ _ _ h
  refine wpAny_call (codeAny_mono (F.run X.A X.stack s H ⟨us, []⟩ (us ++ ds) (vs ++ dvs) Q E hr I.env0 (hb s us I.kIn hl) r2 h) fun r s' hq => ?_)
  cases r with
  | error e => exact hx pins σ H s e s' I hq
  | ok fl =>
    cases fl with
    | ret u => exact I.after hq
    | next => exact False.elim hq
    | brk => exact False.elim hq
    | cont => exact False.elim hq

theorem pe_call (F : FnOk X.prog X.w X.K X.mg X.base CX k f fd ps sp) (hr : Room k X.A) (hg : Gl X x) (hm : X.mg x = some (.ref f)) (hk : PySem.W.keepIn X.K (.ref f) = true) (hb : Binds X.K fd ps ds) (hd : Vals dvs ds) (hx : Passes CX X E)
    (ha : PA X (e :: es) t) (hdb : (x == ("__debug__" : Str)) = false := by decide) (he : starEach (e :: es) X.env = (false, eval e X.env) :: starEach es X.env := by rfl) (hpl : (backTo pos (starEach es X.env)).any (·.1) = false := by rfl) :
    PE X (.Call (.Name x p) (e :: es) [] pos) (tCall sp dvs E t) := by
  intro pins s σ H Q I h
  refine wpAny_Call_Name_kw (ld_glob I hg hm ?_ hdb)
  refine PySem.W.callWith_K (h₀ := X.base) I.ok.mod.kin hk (thn (ha pos pins s σ H _ I h) fun us s1 ⟨vs, H1, I1, r, q⟩ => ⟨I1.kIn, ?_⟩) he hpl
  exact run_fn F hr hb hd hx I1 r q
end

section
variable {X : Cx} {CX : CXT} {k : Nat} {f C : Addr} {fd : FuncData} {ps ks : List Str} {sp : Sp} {E : XK} {x m : Str} {p pos apos kpos : Pos} {e o : Expr} {es : List Expr} {kws : List Keyword} {te ta : TE} {t tk : TA} {nm : Option Str}
variable {g : List Value → List Value → List Value} {gV : List V → List V → List V}
end

structure FnScope (N P : List Str) (sc : Scope) : Prop where
  kind : sc.kind = .function
  co : sc.isCoroutine = false
  gen : sc.isGenerator = false
  nd : N.Nodup
  pre : N.take P.length = P
  par : ∀ x ∈ P, sc.names.lookup x = some .local ∨ sc.names.lookup x = some .cell
  nofree : ∀ y ∈ sc.names, y.2 ≠ .free

theorem bindL_out {kindOf : Str → Option NameKind} {x : Str} : ∀ {binds : List (Str × Value)} {m : Str → Option Value}, (∀ v, (x, v) ∉ binds) → bindL kindOf binds m x = m x
  | [], _, _ => rfl
  | (n, v) :: r, m, h => by
    unfold bindL
    rw [bindL_out fun w hw => h w (List.mem_cons_of_mem _ hw)]
    split
    · have : x ≠ n := by rintro rfl; exact h v List.mem_cons_self
      simp [this]
    · rfl
theorem bindC_out {kindOf : Str → Option NameKind} {x : Str} : ∀ {binds : List (Str × Value)} {m : Str → Option Value}, (∀ v, (x, v) ∉ binds) → bindC kindOf binds m x = m x
  | [], _, _ => rfl
  | (n, v) :: r, m, h => by
    unfold bindC
    rw [bindC_out fun w hw => h w (List.mem_cons_of_mem _ hw)]
    split
    · rfl
    · have : x ≠ n := by rintro rfl; exact h v List.mem_cons_self
      simp [this]
theorem bindL_get {kindOf : Str → Option NameKind} {x : Str} {v : Value} : ∀ {P : List Str} {vs : List Value} {i : Nat} {m : Str → Option Value}, P.Nodup → P[i]? = some x → vs[i]? = some v → kindOf x = some .local →
    bindL kindOf (P.zip vs) m x = some v
  | [], _, _, _, _, h, _, _ => by simp at h
  | _ :: _, [], _, _, _, _, h, _ => by simp at h
  | p :: P, w :: vs, 0, m, nd, h1, h2, hk => by
    simp at h1 h2; subst h1; subst h2
    show bindL kindOf ((p, w) :: P.zip vs) m p = _
    unfold bindL
    rw [bindL_out fun v hv => (List.nodup_cons.mp nd).1 (List.of_mem_zip hv).1, if_pos hk]
    simp
  | p :: P, w :: vs, i + 1, m, nd, h1, h2, hk => by
    show bindL kindOf ((p, w) :: P.zip vs) m x = _
    unfold bindL
    exact bindL_get (i := i) (List.nodup_cons.mp nd).2 (by simpa using h1) (by simpa using h2) hk
theorem bindC_get {kindOf : Str → Option NameKind} {x : Str} {v : Value} : ∀ {P : List Str} {vs : List Value} {i : Nat} {m : Str → Option Value}, P.Nodup → P[i]? = some x → vs[i]? = some v → kindOf x ≠ some .local →
    bindC kindOf (P.zip vs) m x = some v
  | [], _, _, _, _, h, _, _ => by simp at h
  | _ :: _, [], _, _, _, _, h, _ => by simp at h
  | p :: P, w :: vs, 0, m, nd, h1, h2, hk => by
    simp at h1 h2; subst h1; subst h2
    show bindC kindOf ((p, w) :: P.zip vs) m p = _
    unfold bindC
    rw [bindC_out fun v hv => (List.nodup_cons.mp nd).1 (List.of_mem_zip hv).1, if_neg hk]
    simp
  | p :: P, w :: vs, i + 1, m, nd, h1, h2, hk => by
    show bindC kindOf ((p, w) :: P.zip vs) m x = _
    unfold bindC
    exact bindC_get (i := i) (List.nodup_cons.mp nd).2 (by simpa using h1) (by simpa using h2) hk

noncomputable def start (N : List Str) (vs : List V) : St := vs.map some ++ List.replicate (N.length - vs.length) none

noncomputable def cxOf (CX : CXT) (P : Program) (w : World) (K : PySem.W.Frag) (mg : Str → Option Value) (base : Heap) (N : List Str) (qual : Str) (scope : Scope) (f : Addr) (cd : Value) (A : Around) (outer : List Env) (s : Shared) (H : Hp) (E : XK) : Cx where
  prog := P
  w := w
  K := K
  mg := mg
  base := base
  A := A.deeper (envOfC qual scope s.heap.objs.size f cd)
  N := N
  s₀ := s
  H₀ := H
  env := envOfC qual scope s.heap.objs.size f cd
  outer := outer
  stack := envOfC qual scope s.heap.objs.size f cd :: outer
  ex := []
  calm := true
  fn := fun _ => true
  pn := []
  xe := fun e s' => wpAny (model P w) (A.deeper (envOfC qual scope s.heap.objs.size f cd)) (leaving (envOfC qual scope s.heap.objs.size f cd) e) (fun _ s'' => CX outer H s E e s'') (fun e' s'' => CX outer H s E e' s'') s'

theorem cell_has {sc : Scope} {n : Nat} {x : Str} (h : sc.names.lookup x = some .cell) : ∃ c, (cellsFrom n sc.names []).lookup x = some c := by
  have q := PySem.W.cellsFrom_some sc.names n [] (.inl h)
  exact Option.isSome_iff_exists.mp q

theorem inv_start {CX : CXT} {P : Program} {w : World} {K : PySem.W.Frag} {mg : Str → Option Value} {base : Heap} {N ps : List Str} {qual : Str} {scope : Scope} {f : Addr} {cd : Value} {A : Around} {outer : List Env} {s s1 : Shared} {H : Hp} {E : XK} {us : List Value} {vs : List V}
    (S : FnScope N ps scope) (hd : A.handled = none) (e0 : Env0 P w K mg base A outer s H) (hl : vs.length = ps.length) (r : Vals vs us)
    (x : InCallC s s.heap.objs.size (bindL (envOfC qual scope s.heap.objs.size f cd).kindOf (ps.zip us) fun _ => none) (cellsFrom (s.heap.objs.size + 1) scope.names []) (bindC (envOfC qual scope s.heap.objs.size f cd).kindOf (ps.zip us) fun _ => none) s1) :
    Inv (cxOf CX P w K mg base N qual scope f cd A outer s H E) [] (start N vs) H s1 := by
  have hpl : ps.length ≤ N.length := by have := congrArg List.length S.pre; rw [List.length_take] at this; (clear hl; omega)
  refine L2.put_away fun G'661x5 h'661x5 => ?_
  obtain ⟨h1, tk, rfl, hk⟩ := x.done
  refine h'661x5 ?_
  have noA : ∀ b : Addr, b ∉ (cxOf CX P w K mg base N qual scope f cd A outer s H E).ex := fun b z => absurd (show b ∈ ([] : List Addr) from z) (by simp)
  refine ⟨⟨e0.mod, S.kind, rfl, rfl, Nat.le_refl _, fun y z c h1 h2 => ?_, fun y hy => ?_, fun y c _ h => ?_, fun _ => hd, Around.frames_deeper e0.frames, .inr ⟨rfl, rfl⟩, fun b z => absurd z (noA b), e0.bs, e0.bsz, fun b _ _ => noA b, fun b z => absurd z (noA b), e0.funs, e0.frf⟩,
    rfl, e0.bare, Un.kept hk, ⟨_, x.toInCall.ns, fun i y v h1 h2 h3 => ?_⟩, fun y c h => ⟨_, x.cell y c h⟩, e0.hok.fresh (Nat.le_refl _), fun y c h => ?_, fun p hp => absurd (show p ∈ ([] : List (Addr × Obj)) from hp) (by simp), e0.hok.kept hk, ?_⟩
  · exact name_of_addr x.apart (PySem.mem_of_lookup h1) (PySem.mem_of_lookup h2)
  · have hy : scope.names.lookup y = some .cell ∨ scope.names.lookup y = some .free := hy
    rcases hy with hy | hy
    · exact cell_has hy
    · exact absurd rfl (S.nofree _ (PySem.mem_of_lookup hy))
  · exact Nat.le_of_lt (x.above y c (PySem.mem_of_lookup h))
  · have hi : i < vs.length := by
      unfold start at h2
      by_cases hi : i < vs.length
      · exact hi
      · rw [List.getElem?_append_right (by simpa using hi)] at h2
        rw [List.getElem?_replicate] at h2
        split at h2 <;> cases h2
    have ha : vs[i]? = some v := by
      unfold start at h2
      rw [List.getElem?_append_left (by simpa using hi), List.getElem?_map] at h2
      cases e : vs[i]? with
      | none => rw [e] at h2; cases h2
      | some a => rw [e] at h2; cases h2; rfl
    refine L2.put_away fun G'661x28 h'661x28 => ?_
    obtain ⟨u, hu, rv⟩ := r.get ha
    refine h'661x28 ?_
    have hp : ps[i]? = some y := by
      rw [← S.pre, List.getElem?_take_of_lt (by (clear hpl h1 h2 ha hu; omega))]; exact h1
    have ndP : ps.Nodup := by rw [← S.pre]; exact S.nd.sublist (List.take_sublist _ _)
    refine ⟨u, rv, ?_⟩
    rcases S.par y (List.mem_of_getElem? hp) with k | k
    · exact .inl ⟨k, bindL_get ndP hp hu k⟩
    · obtain ⟨c, e⟩ := cell_has (n := s.heap.objs.size + 1) k
      refine .inr ⟨.inl k, c, e, ?_⟩
      have q := x.cell y c e
      rw [bindC_get ndP hp hu (by show scope.names.lookup y ≠ _; rw [k]; decide)] at q
      exact q
  · exact e0.hok.fresh (Nat.le_of_lt (x.above y c (PySem.mem_of_lookup h)))
  · unfold start
    show _ = N.length
    rw [List.length_append, List.length_map, List.length_replicate]
    omega

theorem fn_of {CX : CXT} {P : Program} {w : World} {K : PySem.W.Frag} {mg : Str → Option Value} {base : Heap} {k : Nat} {f : Addr} {name qual : Str} {params : Arguments} {body : List Stmt} {scope : Scope} {dV kV doc pm cdv ct oc : Value} {an od : Option Addr}
    {osl : Array (Option Value)} {N ps : List Str} {sp : Sp} (lk : K.lookup f = some ⟨oc, od, .func (PySem.W.fnOf name qual params body scope dV kV doc pm an cdv ct), osl⟩) (hcd : PySem.W.codeIn K cdv qual = true) (S : FnScope N ps scope)
    (len : ∀ vs H Q E, sp vs H Q E → vs.length = ps.length)
    (hbody : ∀ (A : Around) (outer : List Env) (s : Shared) (H : Hp) (vs : List V) (Q : VK) (E : XK), Room k (A.deeper (envOfC qual scope s.heap.objs.size f cdv)) → sp vs H Q E →
      ∃ t, PSs (cxOf CX P w K mg base N qual scope f cdv A outer s H E) body t ∧ t { nx := fun _ H' => Q .non H', rt := Q } (start N vs) H) :
    FnOk P w K mg base CX (k + 1) f (PySem.W.fnOf name qual params body scope dV kV doc pm an cdv ct) ps sp := by
  refine ⟨len, fun A outer s H args us vs Q E hr e0 hb r hsp => ?_⟩
  have hl := len _ _ _ _ hsp
  have KX : K.In s.heap := e0.mod.kin.keeps fun b o e => (e0.bs b o e).1
  have lim : s.heap.NoLimit := e0.mod.nolimit.keeps fun b o e => (e0.bs b o e).1
  have hkind : ∀ y ∈ ps.zip us, scope.names.lookup y.1 = some .local ∨ (scope.names.lookup y.1 = some .cell ∧ ((cellsFrom (s.heap.objs.size + 1) scope.names []).lookup y.1).isSome = true) := fun ⟨n, v⟩ hy => by
    rcases S.par n (List.of_mem_zip hy).1 with q | q
    · exact .inl q
    · exact .inr ⟨q, PySem.W.cellsFrom_some _ _ _ (.inl q)⟩
  refine codeAny_call_function hr.depth (KX _ _ lk) rfl S.co S.gen rfl (PySem.W.codeRec_of KX hcd) (hb _ _ _ _ ?_)
  refine wpAny_newFunctionEnv_cells S.kind hkind fun env he s1 x => ?_
  subst he
  refine ⟨lim.keeps x.toInCall.keep, codeAny_func ?_⟩
  refine L2.put_away fun G'662x18 h'662x18 => ?_
  obtain ⟨t, ht, hq⟩ := hbody A outer s H vs Q E (hr.deeper _) hsp
  refine h'662x18 ?_
  have I : Inv (cxOf CX P w K mg base N qual scope f cdv A outer s H E) [] (start N vs) H s1 := inv_start S hr.hd e0 hl r x
  refine wpAny_mono (ht [] s1 (start N vs) H _ I hq) (fun fl s' hs => ?_) fun e s' hs => hs
  have fin : ∀ {σ' : St} {H' : Hp} {v : V} {u : Value}, Inv (cxOf CX P w K mg base N qual scope f cdv A outer s H E) [] σ' H' s' → RelV v u → Q v H' → CE outer P w H s Q u s' :=
    fun {σ' H' v u} J rv q => ⟨v, H', J.os, J.bare, J.base, J.hok, rv, q⟩
  cases fl with
  | ret u =>
    refine L2.put_away fun G'662x25 h'662x25 => ?_
    obtain ⟨v, σ', H', J, rv, q⟩ := hs
    refine h'662x25 ?_
    exact fin J rv q
  | next =>
    refine L2.put_away fun G'662x28 h'662x28 => ?_
    obtain ⟨σ', H', J, q⟩ := hs
    refine h'662x28 ?_
    exact fin (v := V.non) (u := Value.none) J rfl q
  | brk =>
    refine L2.put_away fun G'662x31 h'662x31 => ?_
    obtain ⟨_, _, _, q⟩ := hs
    refine h'662x31 ?_
    exact False.elim q
  | cont =>
    refine L2.put_away fun G'662x34 h'662x34 => ?_
    obtain ⟨_, _, _, q⟩ := hs
    refine h'662x34 ?_
    exact False.elim q
end L2

namespace L2
open PySem PySem.Spec PyProof.Rows
section
variable {X : Cx} {x : Str} {p pos : Pos} {e : Expr} {es : List Expr} {t : TA} {id T : String} {r : List V → Hp → VK → Prop}

noncomputable def tCB (r : List V → Hp → VK → Prop) (t : TA) : TE := fun σ H Q => t σ H fun vs H1 => r vs H1 Q
theorem pe_callB (hc : CallR X (.builtin id) r) (hg : Gl X x) (hm : X.mg x = none) (hv : bootBuiltins x = some (.builtin id)) (ha : PA X (e :: es) t) (hn : x ≠ "__name__" := by decide) (hdb : (x == ("__debug__" : Str)) = false := by decide)
    (he : starEach (e :: es) X.env = (false, eval e X.env) :: starEach es X.env := by rfl) (hpl : (backTo pos (starEach es X.env)).any (·.1) = false := by rfl) : PE X (.Call (.Name x p) (e :: es) [] pos) (tCB r t) := by
  intro pins s σ H Q I h
  refine wpAny_Call_Name_kw (ld_blt I hg hm hv ?_ hn hdb)
  exact PyProof.Rows.callWith_builtin1 (thn (ha pos pins s σ H _ I h) fun us s1 ⟨vs, H1, I1, r1, q1⟩ => hc pins s1 σ H1 vs us Q I1 r1 q1) he hpl
theorem pe_callTy (hc : CallR X (.type T) r) (hg : Gl X x) (hm : X.mg x = none) (hv : bootBuiltins x = some (.type T)) (ha : PA X (e :: es) t) (hn : x ≠ "__name__" := by decide) (hdb : (x == ("__debug__" : Str)) = false := by decide)
    (he : starEach (e :: es) X.env = (false, eval e X.env) :: starEach es X.env := by rfl) (hpl : (backTo pos (starEach es X.env)).any (·.1) = false := by rfl) : PE X (.Call (.Name x p) (e :: es) [] pos) (tCB r t) := by
  intro pins s σ H Q I h
  refine wpAny_Call_Name_kw (ld_blt I hg hm hv ?_ hn hdb)
  exact PyProof.Rows.callWith_type1 (thn (ha pos pins s σ H _ I h) fun us s1 ⟨vs, H1, I1, r1, q1⟩ => hc pins s1 σ H1 vs us Q I1 r1 q1) he hpl
end
end L2

namespace HT
open PySem PyProof.Rows

section
open PySem.SeqAt
open PySem.AutoSeq1 (wpAny_loadPart')
open PySem.MeetsSeq PySem.MeetsSeq2 PySem.MeetsSeq3

end

section
variable {prog : Program} {w : World} {A : Around} {E : Value → Shared → Prop} {s : Shared}

noncomputable def sIx (n d : Nat) : Option Int → Nat
  | none => d
  | some v => if v < 0 then (v + (n : Int)).toNat else min v.toNat n
end
end HT

namespace L2
open PySem PySem.Spec PyProof.Rows

noncomputable abbrev TO := St → Hp → (Option Int → Hp → Prop) → Prop
noncomputable def PO (X : Cx) (e : Option Expr) (t : TO) : Prop :=
  ∀ (pins : List (Addr × Obj)) (s : Shared) (σ : St) (H : Hp) (Q : Option Int → Hp → Prop), Inv X pins σ H s → t σ H Q →
    wpAny (model X.prog X.w) X.A (evalPart e X.env) (fun u s' => ∃ o H', Inv X pins σ H' s' ∧ IsPart u o ∧ Q o H') X.xe s
noncomputable def tNoPart : TO := fun _ H Q => Q none H
noncomputable def tPart (t : TE) : TO := fun σ H Q => t σ H fun x H1 => ∃ i, x = .int i ∧ Q (some i) H1

theorem intsAre_of {ns : List Int} : ∀ {us : List Value}, Vals (ns.map V.int) us → IntsAre us ns := by
  induction ns with
  | nil => intro us r; rw [List.map_nil] at r; cases r; exact .nil
  | cons n ns ih =>
    intro us r
    rw [List.map_cons] at r
    cases r with
    | cons r1 r2 =>
      obtain ⟨t, e⟩ := r1
      subst e
      exact .cons n t (ih r2)

section
variable {X : Cx} {e : Expr} {te : TE} {lo hi : Option Expr} {tl th : TO} {pos p2 : Pos}

theorem po_none : PO X none tNoPart := by
  intro pins s σ H Q I h
  rw [evalPart_none]
  exact wpAny_pure ⟨none, H, I, .none, h⟩
theorem po_some (h : PE X e te) : PO X (some e) (tPart te) := by
  intro pins s σ H Q I hw
  rw [evalPart_some]
  refine thn (h pins s σ H _ I hw) fun u s1 ⟨x, H1, I1, r1, q1⟩ => ?_
  refine L2.put_away fun G'718x4 h'718x4 => ?_
  obtain ⟨i, rfl, q⟩ := q1
  refine h'718x4 ?_
  obtain ⟨t, rfl⟩ := r1
  exact ⟨some i, H1, I1, .int i t, q⟩

noncomputable def SlR (X : Cx) (r : V → Option Int → Option Int → Hp → VK → Prop) : Prop :=
  ∀ (pins : List (Addr × Obj)) (s : Shared) (σ : St) (H : Hp) (x : V) (v vl vu : Value) (lo hi : Option Int) (sl : Addr) (Q : VK), Inv X pins σ H s → RelV x v → s.heap.IsSliceOf sl vl vu .none → IsPart vl lo → IsPart vu hi → r x lo hi H Q →
    ∃ T id, typeLookup (.type T) "__getitem__" = pure (some (.builtin id)) ∧ s.TypeIs v T ∧ wpAny (model X.prog X.w) X.A (getItem v (.ref sl)) (EP X pins σ Q) X.xe s
noncomputable def tSl (r : V → Option Int → Option Int → Hp → VK → Prop) (te : TE) (tl th : TO) : TE := fun σ H Q => te σ H fun x H1 => tl σ H1 fun l H2 => th σ H2 fun u H3 => r x l u H3 Q
theorem pe_slice {r : V → Option Int → Option Int → Hp → VK → Prop} (hr : SlR X r) (he : PE X e te) (hl : PO X lo tl) (hu : PO X hi th) : PE X (.Subscript e (.Slice lo hi none p2) pos) (tSl r te tl th) := by
  intro pins s σ H Q I h
  refine Subscript_ (thn (he pins s σ H _ I h) fun v s1 ⟨x, H1, I1, r1, q1⟩ => ?_)
  refine wpAny_Slice (thn (hl pins s1 σ H1 _ I1 q1) fun vl s2 ⟨l, H2, I2, pl, q2⟩ => thn (hu pins s2 σ H2 _ I2 q2) fun vu s3 ⟨u, H3, I3, pu, q3⟩ => ?_)
  rw [evalPart_none]
  refine wpAny_pure ?_
  have I4 : Inv X pins σ H3 { s3 with heap := s3.heap.push { cls := .type "slice", data := .fields #[vl, vu, .none] } } := I3.kept (t' := s3.toks) fun b ob q => Heap.get?_push_of_some _ q
  refine L2.put_away fun G'722x7 h'722x7 => ?_
  obtain ⟨T, id, hT, ht, hg⟩ := hr pins { s3 with heap := s3.heap.push { cls := .type "slice", data := .fields #[vl, vu, .none] } } σ H3 x v vl vu l u s3.heap.objs.size Q I4 r1 (Heap.IsSliceOf.new ..) pl pu q3
  refine h'722x7 ?_
  show wpAny (model X.prog X.w) X.A (subscriptTail e (.Slice lo hi none p2) v (.ref s3.heap.objs.size)) (EP X pins σ Q) X.xe { s3 with heap := s3.heap.push { cls := .type "slice", data := .fields #[vl, vu, .none] } }
  exact tail_any (ops := [.ref s3.heap.objs.size, v]) ht hT hg (by with_unfolding_all rfl)

noncomputable def cutV (xs : List V) (lo hi : Option Int) : List V := (xs.drop (HT.sIx xs.length 0 lo)).take (HT.sIx xs.length xs.length hi - HT.sIx xs.length 0 lo)
theorem cutV_length (xs : List V) (lo hi : Option Int) : (cutV xs lo hi).length ≤ xs.length := by
  unfold cutV
  rw [List.length_take, List.length_drop]
  omega
end
end L2

namespace L2
open PySem PySem.Spec PyProof.Rows

noncomputable def ixN (n : Nat) (i : Int) : Option Nat := if 0 ≤ i then (if i < n then some i.toNat else none) else if -(n : Int) ≤ i then some (i + n).toNat else none
noncomputable def atI {α : Type} (xs : List α) (i : Int) : Option α := (ixN xs.length i).bind fun j => xs[j]?
theorem ixN_seq {n : Nat} {i : Int} {j : Nat} (h : ixN n i = some j) : seqIndex? i n = some j ∧ j < n ∧ -(n : Int) ≤ i ∧ i < n := by
  unfold ixN at h
  by_cases h0 : 0 ≤ i
  · rw [if_pos h0] at h
    by_cases h1 : i < n
    · rw [if_pos h1] at h
      have e : i.toNat = j := Option.some.inj h
      exact ⟨by rw [seqIndex_of h0 h1, e], by (clear h; omega), by (clear h h1 e; omega), h1⟩
    · rw [if_neg h1] at h; cases h
  · rw [if_neg h0] at h
    by_cases h1 : -(n : Int) ≤ i
    · rw [if_pos h1] at h
      have e : (i + n).toNat = j := Option.some.inj h
      exact ⟨by rw [seqIndex_neg (by (clear h h1 e; omega)) h1, e], by (clear h; omega), h1, by (clear h e h1; omega)⟩
    · rw [if_neg h1] at h; cases h
theorem atI_get {α : Type} {xs : List α} {i : Int} {v : α} (h : atI xs i = some v) : ∃ j, seqIndex? i xs.length = some j ∧ xs[j]? = some v ∧ j < xs.length ∧ -(xs.length : Int) ≤ i ∧ i < xs.length := by
  unfold atI at h
  cases e : ixN xs.length i with
  | none => rw [e] at h; cases h
  | some j =>
    rw [e] at h
    refine L2.put_away fun G'742x6 h'742x6 => ?_
    obtain ⟨h1, h2, h3, h4⟩ := ixN_seq e
    refine h'742x6 ?_
    exact ⟨j, h1, h, h2, h3, h4⟩
theorem atI_nat {α : Type} {xs : List α} {j : Nat} {v : α} (h : xs[j]? = some v) : atI xs (j : Int) = some v := by
  have hj : j < xs.length := (List.getElem?_eq_some_iff.mp h).1
  have e : ixN xs.length (j : Int) = some j := by
    unfold ixN
    rw [if_pos (by (clear h hj; omega)), if_pos (by (clear h; omega))]; simp
  unfold atI; rw [e]; exact h
noncomputable def PlainIx (b : Expr) : Prop := ∀ o i, subscripted b false o i = operate [o, i] (getItem o i)
noncomputable def IxR (X : Cx) (r : R2) : Prop :=
  ∀ (value slice : Expr) (pins : List (Addr × Obj)) (s : Shared) (σ : St) (H : Hp) (x y : V) (v u : Value) (Q : VK), Inv X pins σ H s → RelV x v → RelV y u → r x y H Q →
    subscripted slice false v u = operate [v, u] (getItem v u) → wpAny (model X.prog X.w) X.A (subscriptTail value slice v u) (EP X pins σ Q) X.xe s
noncomputable def MtR (X : Cx) (id : String) (r : V → List V → Hp → VK → Prop) : Prop :=
  ∀ (pins : List (Addr × Obj)) (s : Shared) (σ : St) (H : Hp) (x : V) (xs : List V) (v : Value) (us : List Value) (Q : VK), Inv X pins σ H s → RelV x v → Vals xs us → r x xs H Q →
    wpAny (model X.prog X.w) X.A (call (.builtin id) (v :: us)) (EP X pins σ Q) X.xe s
section
variable {X : Cx} {a b : Expr} {ta tb : TE} {pos : Pos}
theorem pe_ix {r : R2} (hr : IxR X r) (ha : PE X a ta) (hb : PE X b tb) (hs : PlainIx b) : PE X (.Subscript a b pos) (tOp r ta tb) := by
  intro pins s σ H Q I h
  exact Subscript_ (binT ha hb I h fun v u s2 x y H2 I2 rx ry q => hr a b pins s2 σ H2 x y v u Q I2 rx ry q (hs _ _))

noncomputable def rIxL (K : PySem.W.Frag) : R2 := fun x y H Q => ∃ p xs i v, x = .ref p ∧ y = .int i ∧ SqL K H p xs ∧ atI xs i = some v ∧ Q v H
noncomputable def rIxT (K : PySem.W.Frag) : R2 := fun x y H Q => ∃ p xs i v, x = .ref p ∧ y = .int i ∧ SqT K H p xs ∧ atI xs i = some v ∧ Q v H
theorem ix_list : IxR X (rIxL X.K) := by
  intro value slice pins s σ H x y v u Q I rx ry h hs
  refine L2.put_away fun G'757x2 h'757x2 => ?_
  obtain ⟨p, xs, i, z, rfl, rfl, hq, he, q⟩ := h
  refine h'757x2 ?_
  cases rx
  obtain ⟨t, rfl⟩ := ry
  refine L2.put_away fun G'757x5 h'757x5 => ?_
  obtain ⟨its, r, pl, hz⟩ := I.list hq
  refine h'757x5 ?_
  refine L2.put_away fun G'757x6 h'757x6 => ?_
  obtain ⟨j, h1, h2, h3, h4, h5⟩ := atI_get he
  refine h'757x6 ?_
  refine L2.put_away fun G'757x7 h'757x7 => ?_
  obtain ⟨w, ew, rw'⟩ := r.get h2
  refine h'757x7 ?_
  have hl := r.length
  have hn := line63
  have fin : EP X pins σ Q w s := ⟨z, H, I, rw', q⟩
  by_cases h0 : 0 ≤ i
  · have hj : i.toNat = j := by
      rw [seqIndex_of h0 h5] at h1
      exact Option.some.inj h1
    exact item_listR pl.isList h0 (by (clear h1 h2 h3 h4 ew h0 hj hl; omega)) (by rw [hj]; simpa using ew) fin hs
  · have hj : (i + (its.toArray.size : Int)).toNat = j := by
      rw [seqIndex_neg (by (clear hz h1 h2 h3 h4 h5 ew hl hn; omega)) h4] at h1
      rw [List.size_toArray, ← hl]
      exact Option.some.inj h1
    exact subscriptTail_builtinR (x := w) pl.isList.typeIs slot_list_getitem.lookup
      (wpAny_getItem_list_neg (Q := fun r s' => r = w ∧ EP X pins σ Q r s') pl.isList (by (clear hz h1 h2 h3 h4 h5 ew hl hn hj; omega)) (by rw [List.size_toArray] <;> (clear hz h1 h2 h3 h5 ew hn h0 hj; omega)) (by (clear h1 h2 h3 h5 ew h0 hj hl; omega)) (by rw [hj]; simpa using ew) ⟨rfl, fin⟩) hs
theorem ix_tup : IxR X (rIxT X.K) := by
  intro value slice pins s σ H x y v u Q I rx ry h hs
  refine L2.put_away fun G'758x2 h'758x2 => ?_
  obtain ⟨p, xs, i, z, rfl, rfl, hq, he, q⟩ := h
  refine h'758x2 ?_
  cases rx
  obtain ⟨t, rfl⟩ := ry
  refine L2.put_away fun G'758x5 h'758x5 => ?_
  obtain ⟨its, r, pl, hz⟩ := I.tuple hq
  refine h'758x5 ?_
  refine L2.put_away fun G'758x6 h'758x6 => ?_
  obtain ⟨j, h1, h2, h3, h4, h5⟩ := atI_get he
  refine h'758x6 ?_
  refine L2.put_away fun G'758x7 h'758x7 => ?_
  obtain ⟨w, ew, rw'⟩ := r.get h2
  refine h'758x7 ?_
  have hl := r.length
  have hn := line63
  have fin : EP X pins σ Q w s := ⟨z, H, I, rw', q⟩
  exact subscriptTail_builtinR (x := w) pl.typeIs slot_tuple_getitem.lookup
    (getItem_tuple (j := j) (Q := fun r s' => r = w ∧ EP X pins σ Q r s') pl (by (clear h1 h2 h5 ew hl h3; omega)) (by (clear h1 h2 h4 ew hl h3; omega)) (by rw [List.size_toArray, ← hl]; exact h1) (by simpa using ew) ⟨rfl, fin⟩) hs
theorem mapSeq_set (its : List Value) (n j : Nat) (u : Value) : Obj.mapSeq (·.setIfInBounds j u) { cls := .type "list", data := .seq its.toArray n } = { cls := .type "list", data := .seq (its.set j u).toArray n } := by
  simp [Obj.mapSeq]
theorem Inv.lst {pins : List (Addr × Obj)} {σ : St} {H : Hp} {s : Shared} {p : Addr} {xs : List V} (I : Inv X pins σ H s) (h : H p = some (.lst xs)) :
    ∃ (its : List Value) (n : Nat), Vals xs its ∧ s.heap.get? p = some { cls := .type "list", data := .seq its.toArray n } ∧ xs.length ≤ sizeLine := by
  refine L2.put_away fun G'764x2 h'764x2 => ?_
  obtain ⟨z, its, n, r, e⟩ := I.hok p _ h
  refine h'764x2 ?_
  exact ⟨its, n, r, e, z⟩
theorem Inv.lstUpd {pins : List (Addr × Obj)} {σ : St} {H : Hp} {s : Shared} {p : Addr} {xs ys : List V} {its its' : List Value} {n n' : Nat} {f : Obj → Obj} (I : Inv X pins σ H s) (h : H p = some (.lst xs))
    (ho : s.heap.get? p = some { cls := .type "list", data := .seq its.toArray n }) (hf : f { cls := .type "list", data := .seq its.toArray n } = { cls := .type "list", data := .seq its'.toArray n' }) (r : Vals ys its') (hz : ys.length ≤ sizeLine) (t : Nat) :
    Inv X pins σ (upd H p (.lst ys)) { s with heap := s.heap.update p f, toks := t } := by
  have e : (s.heap.update p f).get? p = some { cls := .type "list", data := .seq its'.toArray n' } := by
    rw [Heap.get?_update_self f ho (by rw [hf] <;> rfl), hf]
  refine I.write (x := p) (e := p) (by rw [h]; trivial) (.inl rfl) (fun b u hb q => (Heap.get?_update_other _ _ (Ne.symm hb)).trans q) ⟨_, e⟩ ?_
  exact ⟨hz, its', n', r, e⟩
noncomputable def rSetL : V → V → V → Hp → (Hp → Prop) → Prop := fun o i v H Q => ∃ p xs k j, o = .ref p ∧ i = .int k ∧ H p = some (.lst xs) ∧ ixN xs.length k = some j ∧ Q (upd H p (.lst (xs.set j v)))
theorem set_list : PSet X rSetL := by
  intro pins s σ H o i v ov iv u Q I ro ri rv h
  refine L2.put_away fun G'767x2 h'767x2 => ?_
  obtain ⟨p, xs, k, j, rfl, rfl, hp, hj, q⟩ := h
  refine h'767x2 ?_
  cases ro
  obtain ⟨t, rfl⟩ := ri
  refine L2.put_away fun G'767x5 h'767x5 => ?_
  obtain ⟨its, n, r, ho, hz⟩ := I.lst hp
  refine h'767x5 ?_
  refine L2.put_away fun G'767x6 h'767x6 => ?_
  obtain ⟨h1, h2, h3, h4⟩ := ixN_seq hj
  refine h'767x6 ?_
  have hl := r.length
  have hn := line63
  have I' : Inv X pins σ (upd H p (.lst (xs.set j v))) { s with heap := s.heap.update p (Obj.mapSeq (·.setIfInBounds j u)) } :=
    I.lstUpd hp ho (mapSeq_set its n j u) (r.set rv j) (by rw [List.length_set]; exact hz) s.toks
  by_cases h0 : 0 ≤ k
  · have hk : k.toNat = j := by
      rw [seqIndex_of h0 h4] at h1
      exact Option.some.inj h1
    exact PySem.W.ki_setAt ho h0 (by (clear hj h1 h2 h3 h0 hk hl; omega)) (by rw [List.size_toArray, ← hl]; exact h4) (by rw [hk]; exact ⟨_, I', q⟩)
  · have hk : (k + (its.toArray.size : Int)).toNat = j := by
      rw [seqIndex_neg (by (clear hj hz h1 h2 h3 h4 hl hn; omega)) h3] at h1
      rw [List.size_toArray, ← hl]
      exact Option.some.inj h1
    exact PySem.W.ki_setBack ho (by (clear hj hz h1 h2 h3 h4 hl hn hk; omega)) (by rw [List.size_toArray, ← hl]; exact h3) (by (clear hj h1 h2 h4 h0 hk hl; omega)) (by rw [hk]; exact ⟨_, I', q⟩)

theorem slice_bounds (lo hi : Option Int) (n : Nat) : (sliceBounds lo hi none n).1 = ((HT.sIx n 0 lo : Nat) : Int) ∧ (sliceBounds lo hi none n).2.1 = ((HT.sIx n n hi : Nat) : Int) ∧ (sliceBounds lo hi none n).2.2 = 1 := by
  refine ⟨?_, ?_, rfl⟩
  · cases lo with
    | none => simp [sliceBounds, HT.sIx]
    | some i =>
      simp only [sliceBounds, HT.sIx, Option.getD_none, show (1 : Int) > 0 by decide, if_true]
      by_cases h : i < 0
      · simp only [h, if_true] <;> omega
      · simp only [h, if_false] <;> (clear h; omega)
  · cases hi with
    | none => simp [sliceBounds, HT.sIx]
    | some i =>
      simp only [sliceBounds, HT.sIx, Option.getD_none, show (1 : Int) > 0 by decide, if_true]
      by_cases h : i < 0
      · simp only [h, if_true] <;> omega
      · simp only [h, if_false] <;> (clear h; omega)
theorem slicePick_cut (its : List Value) (lo hi : Option Int) : slicePick its.toArray lo hi none = ((its.drop (HT.sIx its.length 0 lo)).take (HT.sIx its.length its.length hi - HT.sIx its.length 0 lo)).toArray := by
  refine L2.put_away fun G'770x1 h'770x1 => ?_
  obtain ⟨h1, h2, h3⟩ := slice_bounds lo hi its.toArray.size
  refine h'770x1 ?_
  unfold slicePick
  rw [h1, h2, h3]
  simp only [sliceRange_one, pick_run, List.size_toArray] <;> rfl
noncomputable def rSlL (K : PySem.W.Frag) : V → Option Int → Option Int → Hp → VK → Prop := fun x lo hi H Q => ∃ a xs, x = .ref a ∧ SqL K H a xs ∧ ∀ p, H p = none → Q (.ref p) (upd H p (.lst (cutV xs lo hi)))
theorem sl_list : SlR X (rSlL X.K) := by
  intro pins s σ H x v vl vu lo hi sl Q I rx hs pl pu h
  refine L2.put_away fun G'772x2 h'772x2 => ?_
  obtain ⟨a, xs, rfl, hx, q⟩ := h
  refine h'772x2 ?_
  cases rx
  refine L2.put_away fun G'772x4 h'772x4 => ?_
  obtain ⟨its, r, ht, hz⟩ := I.list hx
  refine h'772x4 ?_
  have hlen := r.length
  refine ⟨"list", _, slot_list_getitem.lookup, ht.isList.typeIs, ?_⟩
  refine wpAny_getItem_list_slice ht.isList hs pl pu .none (by simp) ?_ (by rw [List.size_toArray] <;> omega)
  rw [slicePick_cut, ← hlen]
  refine ⟨.ref s.heap.objs.size, _, I.laid (t' := s.toks) (o := .lst (cutV xs lo hi)) (fun b ob q => Heap.get?_push_of_some _ q) (Nat.le_refl _) ?_, rfl, q _ (I.hok.fresh (Nat.le_refl _))⟩
  exact ⟨Nat.le_trans (cutV_length xs lo hi) hz, _, 0, (r.drop (HT.sIx xs.length 0 lo)).take (HT.sIx xs.length xs.length hi - HT.sIx xs.length 0 lo), Heap.get?_push_size _ rfl⟩

theorem call_len_seq : CallR X (.builtin "len") (fun xs H Q => ∃ p ys, xs = [.ref p] ∧ (SqL X.K H p ys ∨ SqT X.K H p ys) ∧ Q (.int ys.length) H) := by
  intro pins s σ H xs us Q I r h
  refine L2.put_away fun G'787x2 h'787x2 => ?_
  obtain ⟨p, ys, rfl, hq, q⟩ := h
  refine h'787x2 ?_
  refine L2.put_away fun G'787x3 h'787x3 => ?_
  obtain ⟨u, rfl, rx⟩ := vals1 r
  refine h'787x3 ?_
  cases rx
  have hn := line63
  rcases hq with hq | hq
  · refine L2.put_away fun G'787x7 h'787x7 => ?_
    obtain ⟨its, r', pl, hz⟩ := I.list hq
    refine h'787x7 ?_
    have hlen := r'.length
    exact Calls.call_len_list pl.isList (by simp only [List.size_toArray] <;> omega) ⟨.int ys.length, H, I.tok _, ⟨s.toks + 1, by rw [List.size_toArray, hlen]⟩, q⟩
  · refine L2.put_away fun G'787x10 h'787x10 => ?_
    obtain ⟨its, r', pl, hz⟩ := I.tuple hq
    refine h'787x10 ?_
    have hlen := r'.length
    exact len_tuple pl (by simp only [List.size_toArray] <;> omega) ⟨.int ys.length, H, I.tok _, ⟨s.toks + 1, by rw [List.size_toArray, hlen]⟩, q⟩
theorem call_list_of : CallR X (.type "list") (fun xs H Q => ∃ p ys, xs = [.ref p] ∧ (SqL X.K H p ys ∨ SqT X.K H p ys) ∧ ∀ l, H l = none → Q (.ref l) (upd H l (.lst ys))) := by
  intro pins s σ H xs us Q I r h
  refine L2.put_away fun G'790x2 h'790x2 => ?_
  obtain ⟨p, ys, rfl, hq, q⟩ := h
  refine h'790x2 ?_
  refine L2.put_away fun G'790x3 h'790x3 => ?_
  obtain ⟨u, rfl, rx⟩ := vals1 r
  refine h'790x3 ?_
  cases rx
  have fin : ∀ (its : List Value), Vals ys its → ys.length ≤ sizeLine → ∀ (h' : Heap) (c' : Nat), (∀ b o', s.heap.get? b = some o' → h'.get? b = some o') →
      h'.get? s.heap.objs.size = some { cls := .type "list", dict := none, data := .seq its.toArray c', slots := #[] } → EP X pins σ Q (.ref s.heap.objs.size) { s with heap := h' } := fun its r' hz h' c' kp e =>
    ⟨.ref s.heap.objs.size, _, I.laid (t' := s.toks) kp (Nat.le_refl _) (show ObjOk X.prog X.w _ h' _ (.lst ys) from ⟨hz, its, c', r', e⟩), rfl, q _ (I.hok.fresh (Nat.le_refl _))⟩
  rcases hq with hq | hq
  · refine L2.put_away fun G'790x9 h'790x9 => ?_
    obtain ⟨its, r', pl, hz⟩ := I.list hq
    refine h'790x9 ?_
    have hlen := r'.length
    refine L2.put_away fun G'790x11 h'790x11 => ?_
    obtain ⟨o, ho, hc, n, hd⟩ := pl.isList
    refine h'790x11 ?_
    exact call_list_seq p (.inl rfl) ho hc hd (fun h' c' kp e => fin its r' hz h' c' kp e) (by simp only [List.size_toArray] <;> (clear fin; omega))
  · refine L2.put_away fun G'790x13 h'790x13 => ?_
    obtain ⟨its, r', pl, hz⟩ := I.tuple hq
    refine h'790x13 ?_
    have hlen := r'.length
    refine L2.put_away fun G'790x15 h'790x15 => ?_
    obtain ⟨o, ho, hc, n, hd⟩ := pl
    refine h'790x15 ?_
    exact call_list_seq p (.inr rfl) ho hc hd (fun h' c' kp e => fin its r' hz h' c' kp e) (by simp only [List.size_toArray] <;> (clear fin; omega))
noncomputable def tyV (K : PySem.W.Frag) (T : String) (x : V) (H : Hp) : Prop := match x with
  | .str _ => T = "str"
  | .int _ => T = "int"
  | .ref p => (T = "list" ∧ ∃ xs, SqL K H p xs) ∨ (T = "tuple" ∧ ∃ o, K.lookup p = some o ∧ o.cls = .type "tuple" ∧ o.dict = none) ∨
      (T = "dict" ∧ ((∃ kvs, H p = some (.dK kvs)) ∨ ∃ kvs, H p = some (.dT kvs))) ∨ (T = "set" ∧ ∃ S n, H p = some (.set S n))
  | _ => False
theorem tyV_is {pins : List (Addr × Obj)} {σ : St} {H : Hp} {s : Shared} {T : String} {x : V} {v : Value} (I : Inv X pins σ H s) (r : RelV x v) (ty : tyV X.K T x H) :
    s.TypeIs v T ∧ ∀ a, v = .ref a → ∃ ob, s.heap.get? a = some ob ∧ ob.dict = none := by
  cases x with
  | str z =>
    obtain ⟨t, rfl⟩ := r
    cases (show T = "str" from ty)
    exact ⟨typeIs_str s z t, fun _ e => nomatch e⟩
  | int i =>
    obtain ⟨t, rfl⟩ := r
    cases (show T = "int" from ty)
    exact ⟨typeIs_int s i t, fun _ e => nomatch e⟩
  | ref p =>
    cases r
    rcases ty with ⟨rfl, xs, hq⟩ | ⟨rfl, o, hk, hc, hd⟩ | ⟨rfl, hk⟩ | ⟨rfl, S, n, hk⟩
    · refine L2.put_away fun G'794x14 h'794x14 => ?_
      obtain ⟨its, _, pl, _⟩ := I.list hq
      refine h'794x14 ?_
      refine ⟨pl.isList.typeIs, fun a e => ?_⟩
      cases e
      refine L2.put_away fun G'794x17 h'794x17 => ?_
      obtain ⟨o, n, e, c, hd, _⟩ := pl
      refine h'794x17 ?_
      exact ⟨o, e, hd⟩
    · refine ⟨⟨o, I.kIn p o hk, hc⟩, fun a e => ?_⟩
      cases e
      exact ⟨o, I.kIn _ o hk, hd⟩
    · have z : ∃ o, s.heap.get? p = some o ∧ o.ExactDict := by
        rcases hk with ⟨kvs, hk⟩ | ⟨kvs, hk⟩
        · refine L2.put_away fun G'794x24 h'794x24 => ?_
          obtain ⟨_, _, _, _, o, _, _, e, ex, _⟩ := I.hok p _ hk
          refine h'794x24 ?_
          exact ⟨o, e, ex⟩
        · refine L2.put_away fun G'794x26 h'794x26 => ?_
          obtain ⟨_, _, _, _, o, _, _, e, ex, _⟩ := I.hok p _ hk
          refine h'794x26 ?_
          exact ⟨o, e, ex⟩
      refine L2.put_away fun G'794x28 h'794x28 => ?_
      obtain ⟨o, e, ex⟩ := z
      refine h'794x28 ?_
      refine ⟨⟨o, e, ex.1⟩, fun a e2 => ?_⟩
      cases e2
      exact ⟨o, e, ex.2.1⟩
    · refine L2.put_away fun G'794x32 h'794x32 => ?_
      obtain ⟨o, _, _, _, e, ex, _⟩ := I.hok p _ hk
      refine h'794x32 ?_
      refine ⟨⟨o, e, ex.1⟩, fun a e2 => ?_⟩
      cases e2
      exact ⟨o, e, ex.2.1⟩
  | _ => exact False.elim ty
noncomputable def tBM0 (K : PySem.W.Frag) (T : String) (r : V → List V → Hp → VK → Prop) (to : TE) : TE := fun σ H Q => to σ H fun x H1 => tyV K T x H1 ∧ r x [] H1 Q
noncomputable def tBM (K : PySem.W.Frag) (T : String) (r : V → List V → Hp → VK → Prop) (to : TE) (t : TA) : TE := fun σ H Q => to σ H fun x H1 => tyV K T x H1 ∧ t σ H1 fun xs H2 => r x xs H2 Q
variable {o e : Expr} {es : List Expr} {to : TE} {t : TA} {name : Str} {apos cpos : Pos} {T id : String} {r : V → List V → Hp → VK → Prop}
theorem pe_bm (pa : PlainAttrs T) (slot : Slot T name id) (hty : typeOf (.builtin id) = pure (.type "method_descriptor")) (hm : MtR X id r) (ho : PE X o to) (ha : PA X (e :: es) t)
    (hbase : attributeBase o name X.env (eval o X.env) = eval o X.env := by rfl)
    (hfew : ((backTo cpos (starEach (e :: es) X.env)).all (fun x => !x.1) && (backToKw cpos (keywordEach [] X.env)).all (fun x => x.1.isSome)
      && decide ((e :: es).length + ([] : List Keyword).length + (if ([] : List Keyword).isEmpty then 0 else 1) < 30)) = true := by rfl)
    (hline : (apos.endLine == cpos.line) = true := by rfl) (hs : starEach (e :: es) X.env = (false, eval e X.env) :: starEach es X.env := by rfl) (hplain : (backTo cpos (starEach es X.env)).any (·.1) = false := by rfl) :
    PE X (.Call (.Attribute o name apos) (e :: es) [] cpos) (tBM X.K T r to t) := by
  intro pins s σ H Q I h
  refine wpAny_Call_method_late hbase hfew hline rfl (thn (ho pins s σ H _ I h) fun v s1 ⟨x, H1, I1, r1, ty, q1⟩ => ?_)
  obtain ⟨h1, h2⟩ := tyV_is I1 r1 ty
  refine ⟨T, id, pa, slot, hty, h1, h2, ?_⟩
  have hA := ha cpos pins s1 σ H1 _ I1 q1
  rw [hs] at hA ⊢
  refine Calls.callWith_builtin (by show (false || (backTo cpos (starEach es X.env)).any (·.1)) = false; rw [hplain] <;> rfl) (Calls.evalArgs_plain ?_)
  exact thn hA fun us s2 ⟨vs, H2, I2, r2, q2⟩ => hm pins s2 σ H2 x vs v us Q I2 r1 r2 q2
/- xs.append(e), list.index on a module's tuple .. are MtR facts of 06m -/
end
end L2

namespace L2
open PySem PySem.Spec PyProof.Rows

noncomputable def MtM (X : Cx) (id : String) (r : V → List V → Hp → VK → Prop) : Prop :=
  ∀ (pins : List (Addr × Obj)) (s : Shared) (σ : St) (H : Hp) (x : V) (xs : List V) (v : Value) (us : List Value) (Q : VK), Inv X pins σ H s → RelV x v → Vals xs us → r x xs H Q →
    wpAny (model X.prog X.w) X.A (call (.builtin id) (v :: us)) (EP X pins σ Q) X.xe s

theorem Vals.one : ∀ {x : V} {us : List Value}, Vals [x] us → ∃ u, us = [u] ∧ RelV x u
  | _, _, .cons r .nil => ⟨_, rfl, r⟩
theorem Vals.two : ∀ {x y : V} {us : List Value}, Vals [x, y] us → ∃ u v, us = [u, v] ∧ RelV x u ∧ RelV y v
  | _, _, _, .cons r (.cons q .nil) => ⟨_, _, rfl, r, q⟩
theorem Vals.zero : ∀ {us : List Value}, Vals [] us → us = []
  | _, .nil => rfl
theorem Vals.eraseIdx : ∀ {xs : List V} {us : List Value} (i : Nat), Vals xs us → Vals (xs.eraseIdx i) (us.eraseIdx i)
  | _, _, _, .nil => .nil
  | _, _, 0, .cons _ t => t
  | _, _, i + 1, .cons r t => .cons r (Vals.eraseIdx i t)
theorem Vals.reverse {xs : List V} {us : List Value} (h : Vals xs us) : Vals xs.reverse us.reverse := by
  induction h with
  | nil => exact .nil
  | cons r t ih => rw [List.reverse_cons, List.reverse_cons]; exact Vals.append ih (.cons r .nil)
theorem len_erase {α : Type} : ∀ (l : List α) (i : Nat), (l.eraseIdx i).length ≤ l.length
  | [], _ => Nat.le_refl _
  | _ :: _, 0 => Nat.le_succ _
  | _ :: r, i + 1 => Nat.succ_le_succ (len_erase r i)
section
variable {X : Cx} {pins : List (Addr × Obj)} {σ : St} {H : Hp} {s : Shared} {l b : Addr} {xs ys zs : List V}

theorem Inv.lset {its its' : List Value} {n : Nat} {f : Array Value → Array Value} {t' : Nat} (I : Inv X pins σ H s) (hH : H l = some (.lst xs))
    (e : s.heap.get? l = some { cls := .type "list", data := .seq its.toArray n }) (hf : f its.toArray = its'.toArray) (hv : Vals ys its') (hz : ys.length ≤ sizeLine) :
    Inv X pins σ (upd H l (.lst ys)) { s with heap := s.heap.update l (Obj.mapSeq f), toks := t' } := by
  have q := PySem.IsL.update e f
  rw [hf] at q
  refine I.write (x := l) (e := l) (by rw [hH]; exact trivial) (.inl rfl) (fun b' u hb hu => (Heap.get?_update_other s.heap (Obj.mapSeq f) (Ne.symm hb)).trans hu) ⟨_, q⟩ ?_
  exact ⟨hz, its', _, hv, q⟩
theorem Inv.lnew {its : List Value} {t' : Nat} (I : Inv X pins σ H s) (hv : Vals ys its) (hz : ys.length ≤ sizeLine) :
    Inv X pins σ (upd H s.heap.objs.size (.lst ys)) { s with heap := s.heap.push { cls := .type "list", data := .seq its.toArray }, toks := t' } :=
  I.laid (fun _ _ q => Heap.get?_push_of_some _ q) (Nat.le_refl _) ⟨hz, its, 0, hv, Heap.get?_push_size _ rfl⟩
theorem Inv.fresh (I : Inv X pins σ H s) : H s.heap.objs.size = none := I.hok.fresh (Nat.le_refl _)
theorem Inv.lstM (I : Inv X pins σ H s) (hH : H l = some (.lst xs)) : xs.length ≤ sizeLine ∧ ∃ (its : List Value) (n : Nat), Vals xs its ∧ xs.length = its.length ∧ s.heap.get? l = some { cls := .type "list", data := .seq its.toArray n } := by
  refine L2.put_away fun G'823x1 h'823x1 => ?_
  obtain ⟨z, its, n, r, e⟩ := I.hok l _ hH
  refine h'823x1 ?_
  exact ⟨z, its, n, r, r.length, e⟩

theorem notLongL {n : Nat} (h : n ≤ sizeLine) : Builtin.List.listTooLong n = false := by
  unfold Builtin.List.listTooLong
  exact decide_eq_false (by omega)
end

section
variable {X : Cx}

noncomputable def rAppend : V → List V → Hp → VK → Prop := fun x vs H Q => ∃ l xs y, x = .ref l ∧ vs = [y] ∧ H l = some (.lst xs) ∧ xs.length < sizeLine ∧ Q .non (upd H l (.lst (xs ++ [y])))
theorem mt_append : MtM X "list.append" rAppend := by
  intro pins s σ H x vs v us Q I rx rv h
  refine L2.put_away fun G'830x2 h'830x2 => ?_
  obtain ⟨l, xs, y, rfl, rfl, hH, hz, q⟩ := h
  refine h'830x2 ?_
  cases rx
  refine L2.put_away fun G'830x4 h'830x4 => ?_
  obtain ⟨u, rfl, ru⟩ := rv.one
  refine h'830x4 ?_
  refine L2.put_away fun G'830x5 h'830x5 => ?_
  obtain ⟨z, its, n, r, hl, e⟩ := I.lstM hH
  refine h'830x5 ?_
  refine call_meets F.slot_list_append ⟨_, e, rfl⟩ F.entry_list_append (F.args_list_append_2 _ _) (PySem.list_append l its.toArray n u (by rw [List.size_toArray]; (clear z; omega))) ⟨e, ?_⟩
  refine ⟨.non, _, I.lset (its' := its ++ [u]) hH e (by simp) (r.append (.cons ru .nil)) ?_, rfl, q⟩
  rw [List.length_append, List.length_singleton]
  (clear z hl; omega)

noncomputable def rExtend : V → List V → Hp → VK → Prop := fun x vs H Q => ∃ l b xs zs, x = .ref l ∧ vs = [.ref b] ∧ H l = some (.lst xs) ∧ H b = some (.lst zs) ∧ xs.length + zs.length ≤ sizeLine ∧ Q .non (upd H l (.lst (xs ++ zs)))
theorem mt_extend : MtM X "list.extend" rExtend := by
  intro pins s σ H x vs v us Q I rx rv h
  refine L2.put_away fun G'832x2 h'832x2 => ?_
  obtain ⟨l, b, xs, zs, rfl, rfl, hH, hB, hz, q⟩ := h
  refine h'832x2 ?_
  cases rx
  refine L2.put_away fun G'832x4 h'832x4 => ?_
  obtain ⟨u, rfl, ru⟩ := rv.one
  refine h'832x4 ?_
  cases ru
  refine L2.put_away fun G'832x6 h'832x6 => ?_
  obtain ⟨z, its, n, r, hl, e⟩ := I.lstM hH
  refine h'832x6 ?_
  refine L2.put_away fun G'832x7 h'832x7 => ?_
  obtain ⟨z2, its2, n2, r2, hl2, e2⟩ := I.lstM hB
  refine h'832x7 ?_
  have hsz : its.toArray.size + its2.toArray.size ≤ sizeLine := by rw [List.size_toArray, List.size_toArray]; (clear z z2; omega)
  have hlong : ¬ (!its.toArray.isEmpty && Builtin.List.listTooLong (its.toArray.size + its2.toArray.size)) = true := by
    rw [notLongL hsz, Bool.and_false]
    exact Bool.false_ne_true
  refine call_meets F.slot_list_extend ⟨_, e, rfl⟩ F.entry_list_extend (F.args_list_extend_2 _ _)
    (AutoSeq1.list_extend_list_list_0 l its.toArray n b its2.toArray n2 hlong (by rw [List.size_toArray]; (clear hz z2 hl2 hsz hlong; omega)) (by (clear hz z hl z2 hl2 hlong; omega))) ⟨e, e2, ?_⟩
  refine ⟨.non, _, I.lset (its' := its ++ its2) hH e (by simp) (r.append r2) ?_, rfl, q⟩
  rw [List.length_append]
  (clear z hl z2 hl2 hsz hlong; omega)

noncomputable def rPopAt : V → List V → Hp → VK → Prop := fun x vs H Q => ∃ l xs i k y, x = .ref l ∧ vs = [.int i] ∧ H l = some (.lst xs) ∧ -(2 ^ 63) ≤ i ∧ i < 2 ^ 63 ∧ seqIndex? i xs.length = some k ∧ xs[k]? = some y ∧ Q y (upd H l (.lst (xs.eraseIdx k)))
theorem mt_popAt : MtM X "list.pop" rPopAt := by
  intro pins s σ H x vs v us Q I rx rv h
  refine L2.put_away fun G'836x2 h'836x2 => ?_
  obtain ⟨l, xs, i, k, y, rfl, rfl, hH, h1, h2, hk, hy, q⟩ := h
  refine h'836x2 ?_
  cases rx
  refine L2.put_away fun G'836x4 h'836x4 => ?_
  obtain ⟨u, rfl, ru⟩ := rv.one
  refine h'836x4 ?_
  obtain ⟨t, rfl⟩ := ru
  refine L2.put_away fun G'836x6 h'836x6 => ?_
  obtain ⟨z, its, n, r, hl, e⟩ := I.lstM hH
  refine h'836x6 ?_
  refine L2.put_away fun G'836x7 h'836x7 => ?_
  obtain ⟨w, hw, rw'⟩ := r.get hy
  refine h'836x7 ?_
  refine call_meets F.slot_list_pop ⟨_, e, rfl⟩ F.entry_list_pop (F.args_list_pop_2 _ _)
    (MeetsSeq.list_pop_at l its.toArray n i t k w (fitsIndex_both h1 h2) (by rw [List.size_toArray, ← hl]; exact hk) (by rw [← Array.getElem?_toList]; exact hw) (by rw [List.size_toArray]; (clear h1 h2 hk hy hw; omega))) ⟨e, ?_⟩
  refine ⟨y, _, I.lset (its' := its.eraseIdx k) hH e ?_ (r.eraseIdx k) ?_, rw', q⟩
  · show its.toArray.eraseIdxIfInBounds k = (its.eraseIdx k).toArray
    rw [List.eraseIdxIfInBounds_toArray]
  · have := len_erase xs k
    (clear h1 h2 hk hy hw hl; omega)

noncomputable def rCat : R2 := fun x y H Q => ∃ l b xs zs, x = .ref l ∧ y = .ref b ∧ H l = some (.lst xs) ∧ H b = some (.lst zs) ∧ xs.length + zs.length ≤ sizeLine ∧ ∀ p, H p = none → Q (.ref p) (upd H p (.lst (xs ++ zs)))
theorem op_cat : OpR X (binaryOp .Add) rCat := by
  intro pins s σ H x y v u Q I rx ry h
  refine L2.put_away fun G'843x2 h'843x2 => ?_
  obtain ⟨l, b, xs, zs, rfl, rfl, hH, hB, hz, q⟩ := h
  refine h'843x2 ?_
  cases rx
  cases ry
  refine L2.put_away fun G'843x5 h'843x5 => ?_
  obtain ⟨z, its, n, r, hl, e⟩ := I.lstM hH
  refine h'843x5 ?_
  refine L2.put_away fun G'843x6 h'843x6 => ?_
  obtain ⟨z2, its2, n2, r2, hl2, e2⟩ := I.lstM hB
  refine h'843x6 ?_
  refine PySem.P.add_list e e2 ?_ (by rw [List.size_toArray, List.size_toArray]; (clear z z2; omega))
  have ea : its.toArray ++ its2.toArray = (its ++ its2).toArray := by simp
  rw [ea]
  exact ⟨.ref _, _, I.lnew (t' := s.toks) (r.append r2) (by rw [List.length_append]; (clear z hl z2 hl2; omega)), rfl, q _ I.fresh⟩
end

section
variable {prog : Program} {w : World} {A : Around} {E : Value → Shared → Prop} {s : Shared}
end

section
variable {X : Cx}
end
end L2

namespace Att
open PySem PySem.W PySem.Calls PyProof.Rows

theorem ints_of_wellAll {P : Params} {h : Heap} : ∀ (ns : List Int) (vs : List Value), WellAll P h vs (ns.map WData.int) → IntsAre vs ns := by
  intro ns
  induction ns with
  | nil =>
    intro vs w
    rw [List.map_nil] at w
    cases w
    exact .nil
  | cons n ns ih =>
    intro vs w
    rw [List.map_cons] at w
    cases w with
    | cons a b =>
      cases a
      exact .cons _ _ (ih _ b)

theorem script_of {l : OpenLaw} {n : Nat} (hn : l.most = some n) {P : Params} {h : Heap} {args : List WData} {vals : List Value}
    (hpre : l.row.toRowW.claim.pre args = true) (hwl : WellAll P h vals args) :
    ∃ a vs ns, vals = [Value.ref a] ∧ args = [WData.list (ns.map WData.int)] ∧ h.get? a = some { cls := .type "list", data := .seq vs.toArray } ∧ IntsAre vs ns ∧ ns.length ≤ n := by
  have hsh : WShape.hasAll [] args [.list .int] = true := (pre_splitW hpre).1
  have hc : l.pre.holds [] { args := args } = true := (pre_splitW hpre).2
  refine L2.put_away fun G'866x5 h'866x5 => ?_
  obtain ⟨d, r, rfl, h1, h2⟩ := hasAllW_cons hsh
  refine h'866x5 ?_
  obtain rfl := hasAllW_nil h2
  refine L2.put_away fun G'866x7 h'866x7 => ?_
  obtain ⟨xs, rfl, h3⟩ := hasW_list h1
  refine h'866x7 ?_
  obtain ⟨ns, rfl⟩ := items_int h3
  have hlen : ns.length ≤ n := by
    unfold OpenLaw.pre at hc
    have h4 : (WTm.not (.lt (.lit (.int (n : Int))) (.len (.arg 0)))).holds [] { args := [.list (ns.map .int)] } = true := by
      have h4 := (holds_andW hc).1
      rw [hn] at h4
      exact h4
    have h5 := condW_of h4 (w_not (w_lt w_lit (w_len_list (w_arg rfl))))
    rw [List.length_map] at h5
    refine Nat.le_of_not_lt fun q => ?_
    have q' : (n : Int) < ((ns.length : Nat) : Int) := by (clear hn h3 h1 hpre hsh hc h'866x5 h'866x7 h4 h5; omega)
    first
      | (rw [decide_eq_true q'] at h5; exact absurd h5 (by decide))
      | (simp at h5; omega)
  cases hwl with
  | cons w1 w2 =>
    cases w2
    cases w1 with
    | list ho hall => exact ⟨_, _, ns, rfl, rfl, ho, ints_of_wellAll ns _ hall, hlen⟩

theorem post_true (l : OpenLaw) (args : List WData) : l.row.toRowW.claim.post args (.bool true) args = true :=
  postW_of (r := l.row.toRowW) (X := (true == true))
    (show WShape.has [] (.bool true) .bool = true by first | rfl | decide | simp [WShape.has, WShape.arms, WShape.armsAll])
    (show (WTm.eq .res (.lit (.bool true))).value [] { args := args, res := some (.bool true), after := args } = some (.bool (true == true)) from w_eq_bool (w_res rfl) w_lit) rfl

section
variable {prog : Program} {w : World} {A : Around} {E : Value → Shared → Prop} {s : Shared} {K : Frag}

end
end Att

namespace L2
open PySem PySem.Spec PyProof.Rows

theorem vals_ints : ∀ {vs : List Value} {ns : List Int}, IntsAre vs ns → Vals (ns.map V.int) vs
  | _, _, .nil => .nil
  | _, _, .cons n t h => .cons ⟨t, rfl⟩ (vals_ints h)

noncomputable def Only (H : Hp) : Prop := ∀ b, H b = none ∨ ∃ o xs, H b = some (.frz o (.lst xs))

theorem law_call {P : Program} {w : World} {K : PySem.W.Frag} {mg mb : Str → Option Value} {CX : CXT} {k : Nat} {fa a : Addr} {fd : FuncData} {x : Str} {sp : Sp} {s₁ : Shared} {vs : List Value} {ns : List Int}
    (KX : K.In s₁.heap) (hns : s₁.heap.Ns mainGlobals mg) (hb : s₁.heap.Ns builtinsNs mb) (hbb : ∀ x : Str, x ≠ "__name__" → mb x = bootBuiltins x) (hlim : s₁.heap.NoLimit) (hg : s₁.gens = #[])
    (ha : s₁.heap.get? a = some { cls := .type "list", data := .seq vs.toArray }) (hi : IntsAre vs ns) (hl : ns.length ≤ sizeLine) (hr : Room k callerA)
    (F : ∀ base : Heap, K.In base → base.Ns mainGlobals mg → FnOk P w K mg base CX k fa fd [x] sp) (hbind : ∀ (s : Shared) (u : Value), BindsTo s fd ⟨[u], []⟩ [(x, u)])
    (hsp : ∀ H : Hp, Only H → SqL K H a (ns.map V.int) → sp [.ref a] H (fun v _ => v = .bl true) fun _ _ _ => False)
    (hCX : ∀ H e s', CX [] H s₁ (fun _ _ _ => False) e s' → False) :
    codeAny (model P w) callerA (.call (.ref fa) ⟨[.ref a], []⟩) (fun r s' => r = .ok (.ret (.bool true)) ∧ OldK s₁.heap s'.heap ∧ s'.os = s₁.os ∧ AllBare s'.gens) s₁ := by
  have rv := vals_ints hi
  have lenV := hi.length
  -- from an abstract heap in which nothing but the script may be tracked
  have core : ∀ H : Hp, Only H → SqL K H a (ns.map V.int) → HOk P w H s₁.heap → (∀ b, H b ≠ none → b = a) → (H a ≠ none → K.lookup a = none) →
      codeAny (model P w) callerA (.call (.ref fa) ⟨[.ref a], []⟩) (fun r s' => r = .ok (.ret (.bool true)) ∧ OldK s₁.heap s'.heap ∧ s'.os = s₁.os ∧ AllBare s'.gens) s₁ := by
    intro H hO hS hok hA hK
    have base_of : ∀ {b : Addr} {o : Obj}, s₁.heap.get? b = some o → H b = none → (hidT s₁.heap H).get? b = some o := fun e n => hidT_get e n
    have noA : ∀ {b : Addr} {o : Obj} {es : Array DictEntry} {ep : Nat}, s₁.heap.get? b = some o → o.data = .dict es ep → H b = none := fun {b o es ep} e d => by
      cases q : H b with
      | none => rfl
      | some u =>
        have e' : b = a := hA b (by rw [q]; simp)
        subst e'
        rw [ha] at e; cases e
        have d' : Data.seq vs.toArray _ = Data.dict es ep := d
        cases d'
    have nsK : ∀ {b : Addr} {m : Str → Option Value}, s₁.heap.Ns b m → (hidT s₁.heap H).Ns b m := fun {b m} ⟨o, es, ep, e, d, r⟩ => ⟨o, es, ep, base_of e (noA e d), d, r⟩
    have hKb : K.In (hidT s₁.heap H) := fun b o e => base_of (KX b o e) (by
      cases q : H b with
      | none => rfl
      | some u =>
        have e' : b = a := hA b (by rw [q]; simp)
        subst e'
        rw [hK (by rw [q]; simp)] at e; cases e)
    have hM : Mod K mg (hidT s₁.heap H) := ⟨hKb, nsK hns, ⟨mb, nsK hb, hbb⟩, let ⟨mc, h1, h2⟩ := hlim; ⟨mc, nsK h1, h2⟩⟩
    have e0 : Env0 P w K mg (hidT s₁.heap H) callerA [] s₁ H := ⟨rfl, hM, fun b o e => of_hidT e, Nat.le_of_eq (hidT_size _ _), trivial, fun b hb => absurd (show b ∈ ([] : List Addr) from hb) (by simp), hok, .of_eq hg⟩
    refine codeAny_mono ((F _ hKb (nsK hns)).run callerA [] s₁ H ⟨[.ref a], []⟩ [.ref a] [.ref a] _ _ hr e0 (hbind s₁ (.ref a)) (.cons rfl .nil) (hsp H hO hS)) fun r s' h => ?_
    cases r with
    | error e => exact (hCX H e s' h).elim
    | ok fl =>
      cases fl with
      | next => exact False.elim h
      | brk => exact False.elim h
      | cont => exact False.elim h
      | ret u =>
        refine L2.put_away fun G'894x42 h'894x42 => ?_
        obtain ⟨v, H', os, bare, un, hok', r', q⟩ := h
        refine h'894x42 ?_
        have q' : v = .bl true := q
        subst q'
        obtain rfl : u = Value.bool true := r'
        refine ⟨rfl, OldK.of_keep fun b o e => ?_, os, bare⟩
        cases q : H b with
        | none => exact un.keep b o e q (by intro z; exact absurd (show b ∈ ([] : List Addr) from z) (by simp)) (by simp)
        | some u =>
          rcases hO b with z | ⟨ob, xs, z⟩
          · rw [q] at z; cases z
          · have z2 := un.frzs b ob _ z
            obtain ⟨e1, _⟩ := hok b _ z
            obtain ⟨e2, _⟩ := hok' b _ z2
            rw [e] at e1; cases e1
            exact e2
  cases hk : K.lookup a with
  | some o =>
    -- the script is one of the module's own objects
    have e := KX a o hk
    rw [ha] at e
    cases e
    refine core (fun _ => none) (fun _ => .inl rfl) (.inr ⟨_, vs.toArray, _, hk, rfl, rfl, rfl, by rw [List.size_toArray, lenV]; exact hl, by simpa using rv⟩) (fun b u z => by have z' : (none : Option HO) = some u := z; cases z') (fun b z => absurd rfl z) fun z => absurd rfl z
  | none =>
    refine core (fun b => if b = a then some (.frz { cls := .type "list", data := .seq vs.toArray } (.lst (ns.map V.int))) else none) (fun b => ?_) (.inl (.inr ⟨{ cls := .type "list", data := .seq vs.toArray }, if_pos rfl⟩)) (fun b u z => ?_) (fun b z => ?_) fun _ => hk
    · by_cases hb : b = a
      · exact .inr ⟨_, _, if_pos hb⟩
      · exact .inl (if_neg hb)
    · by_cases hb : b = a
      · have z' := (if_pos hb).symm.trans z
        cases z'
        subst hb
        exact ⟨ha, by rw [List.length_map]; exact hl, vs, _, rv, ha⟩
      · have z' := (if_neg hb).symm.trans z
        cases z'
    · by_cases hb : b = a
      · exact hb
      · exact absurd (if_neg hb) z
end L2

namespace L2
open PySem PySem.Spec PyProof.Rows

end L2

/- THE LAST THEOREM (shape; LID, My.* are yours):
   My.Adr: a structure of the addresses that your layer names (classes, functions); My.Txt K t: a structure (Prop) of the equations over K;
   My.txt_mk : {K} {implicit addresses ..} (e1 : nsIn K mainGlobals "law" = some (some (.ref f))) (e2 : K.lookup f = some ⟨oc, od, .func (fnOf "law" "law" params body scope dV kV doc pm an cdv ct), sl⟩) (e3 : codeIn K cdv "law" = true) .. : ∃ t, My.Txt K t

set_option maxRecDepth 100000 in
set_option maxHeartbeats 0 in
theorem PySem.Challenge.cw_LID_holds : PySem.Challenge.rw_LID.Holds := by
  w_on; o_law; k_head; (case hw => w_witness2)
  k_fill
  refine L2.walk_of (l := PySem.Challenge.rw_LID) (n := 63) (k := 40) (x := "script") (CX := fun w => ..) (sp := fun _ => My.sp_law) rfl (by decide) rfl ⟨rfl, by decide, by decide⟩ (fun w h Y => PySem.W.kIn_of Y) ?F ?S ?C
  case F =>
    intro w mg fa h KX G hmg
    have T : ∃ t, My.Txt (L2.KOf KX) t := by
      dsimp only [L2.KOf]                          -- K must stand as «<heap const> w.params» for k_is
      refine' My.txt_mk ?e1 ?e2 ?e3 ..
      (case e1 => PySem.W.k_is)                    -- in the order: a name -> its address -> its object -> its parts
      (case e2 => PySem.W.k_is)
      ..
    obtain ⟨t, T⟩ := T
    have e0 := hmg.symm.trans (PySem.W.mg_of KX G T.law)
    cases e0                                       -- fa is the law's own address
    exact ⟨_, fun s u => .of_eq rfl, fun base kb nb => My.law_fn T kb nb⟩     -- if «.of_eq rfl» comes too early: refine' ⟨_, ?b, fun base kb nb => My.law_fn T kb nb⟩; exact fun s u => .of_eq rfl
  case S => exact fun w H a ns hl hO hS => ..
  case C => exact ..
(the tactic k_is has no namespace: write k_is) -/

namespace L2
open PySem PySem.Spec PyProof.Rows

noncomputable def defArgs (s : Stmt) : Arguments := match s with
  | .FunctionDef _ a _ _ _ _ _ _ _ _ => a
  | _ => { posonlyargs := [], args := [], vararg := none, kwonlyargs := [], kw_defaults := [], kwarg := none, defaults := [] }
noncomputable def defBody (s : Stmt) : List Stmt := match s with
  | .FunctionDef _ _ b _ _ _ _ _ _ _ => b
  | _ => []
noncomputable def defScope (s : Stmt) : Scope := match s with
  | .FunctionDef _ _ _ _ _ _ sc _ _ _ => sc
  | _ => { kind := .function, names := [], isGenerator := false, isCoroutine := false }

noncomputable abbrev CX0 : CXT := fun _ _ _ _ _ _ => False
noncomputable abbrev E0 : XK := fun _ _ _ => False
theorem pass0 {X : Cx} : Passes CX0 X E0 := fun _ _ _ _ _ _ _ h => h.elim

structure Fun (K : PySem.W.Frag) (x qual : Str) (st : Stmt) (f : Addr) (fd : FuncData) : Prop where
  ex : ∃ (oc : Value) (od : Option Addr) (kV doc pm : Value) (an : Option Addr) (cdv ct : Value) (osl : Array (Option Value)),
    fd = PySem.W.fnOf x qual (defArgs st) (defBody st) (defScope st) .none kV doc pm an cdv ct ∧ K.lookup f = some ⟨oc, od, .func fd, osl⟩ ∧ PySem.W.codeIn K cdv qual = true
  kp : PySem.W.keepIn K (.ref f) = true
section
variable {P : Program} {w : World} {K : PySem.W.Frag} {mg : Str → Option Value} {base : Heap}
theorem Fun.ok {x qual : Str} {st : Stmt} {f : Addr} {fd : FuncData} {N ps : List Str} {k : Nat} {sp : Sp} (F : Fun K x qual st f fd) (S : FnScope N ps (defScope st)) (len : ∀ vs H Q E, sp vs H Q E → vs.length = ps.length)
    (hbody : ∀ (cdv : Value) (A : Around) (outer : List Env) (s : Shared) (H : Hp) (vs : List V) (Q : VK) (E : XK), Room k (A.deeper (envOfC qual (defScope st) s.heap.objs.size f cdv)) → sp vs H Q E →
      ∃ t, PSs (cxOf CX0 P w K mg base N qual (defScope st) f cdv A outer s H E).nox (defBody st) t ∧ t { nx := fun _ H' => Q .non H', rt := Q } (start N vs) H) : FnOk P w K mg base CX0 (k + 1) f fd ps sp := by
  refine L2.put_away fun G'919x3 h'919x3 => ?_
  obtain ⟨oc, od, kV, doc, pm, an, cdv, ct, osl, rfl, lk, hcd⟩ := F.ex
  refine h'919x3 ?_
  refine fn_of lk hcd S len fun A outer s H vs Q E hr hsp => ?_
  refine L2.put_away fun G'919x5 h'919x5 => ?_
  obtain ⟨t, h, q⟩ := hbody cdv A outer s H vs Q E hr hsp
  refine h'919x5 ?_
  exact ⟨t, h.nox, q⟩
theorem Fun.binds {x qual : Str} {st : Stmt} {f : Addr} {fd : FuncData} {ps : List Str} (F : Fun K x qual st f fd)
    (h : ∀ (kV doc pm : Value) (an : Option Addr) (cdv ct : Value) (us : List Value), us.length = ps.length → bindArgs (PySem.W.fnOf x qual (defArgs st) (defBody st) (defScope st) .none kV doc pm an cdv ct) ⟨us, []⟩ = pure (ps.zip us)) : Binds K fd ps [] := by
  refine L2.put_away fun G'920x2 h'920x2 => ?_
  obtain ⟨oc, od, kV, doc, pm, an, cdv, ct, osl, rfl, lk, hcd⟩ := F.ex
  refine h'920x2 ?_
  exact .all (h kV doc pm an cdv ct)
theorem fun_mk {x qual : Str} {st : Stmt} {f : Addr} {oc : Value} {od an : Option Addr} {osl : Array (Option Value)} {kV doc pm cdv ct : Value} (l : K.lookup f = some ⟨oc, od, .func (PySem.W.fnOf x qual (defArgs st) (defBody st) (defScope st) .none kV doc pm an cdv ct), osl⟩)
    (c : PySem.W.codeIn K cdv qual = true) (k : PySem.W.keepIn K (.ref f) = true) : Fun K x qual st f (PySem.W.fnOf x qual (defArgs st) (defBody st) (defScope st) .none kV doc pm an cdv ct) := ⟨⟨oc, od, kV, doc, pm, an, cdv, ct, osl, rfl, l, c⟩, k⟩
end
theorem small1000 {n : Nat} (h : n ≤ 1000) : n < sizeLine := Nat.lt_of_le_of_lt h (by decide)

section
variable {X : Cx}
theorem pv (i : Nat) {x : Str} {pos : Pos} (hN : X.N[i]? = some x := by rfl) (hv : Vis X.env.scope x := by first | exact Or.inl rfl | exact Or.inr (Or.inl rfl) | exact Or.inr (Or.inr rfl)) (hd : (x == ("__debug__" : Str)) = false := by decide)
    (hcd : (x == ("__classdict__" : Str)) = false := by decide) : PE X (.Name x pos) (tVar i) := pe_var hN hv hd hcd
end

noncomputable def Same (H H' : Hp) : Prop := ∀ b o, H b = some o → H' b = some o
theorem Same.refl (H : Hp) : Same H H := fun _ _ h => h
theorem Same.trans {H H1 H2 : Hp} (a : Same H H1) (b : Same H1 H2) : Same H H2 := fun c o h => b c o (a c o h)
theorem Same.free {H H' : Hp} (e : Same H H') {l : Addr} (h : H' l = Option.none) : H l = Option.none := by
  cases q : H l with
  | none => rfl
  | some o =>
    rw [e l o q] at h
    cases h
theorem Same.seq {K : PySem.W.Frag} {H H' : Hp} {a : Addr} {xs : List V} (e : Same H H') (h : SqL K H a xs) : SqL K H' a xs := by
  rcases h with (h | ⟨o, h⟩) | h
  · exact .inl (.inl (e _ _ h))
  · exact .inl (.inr ⟨o, e _ _ h⟩)
  · exact .inr h

end L2
namespace L2
open PySem PySem.Spec PyProof.Rows

theorem compLoop_any {prog : Program} {w : World} {A : Around} {R : Result → Shared → Prop} {s : Shared} {elt target iter : Expr} {ifs : List Expr} {scope : Scope} {pos : Pos} {it acc : Value} {env : Env} (J : Nat → Shared → Prop)
    (turn : ∀ n s, J n s → wpAny (model prog w) A (pyNext it) (fun r s₁ => match r with
      | none => R (.ok .next) s₁
      | some v => wpAny (model prog w) A (letOwnedTupleGo target it v) (fun _ s₁' => wpAny (model prog w) A (assign target env v) (fun _ s₂ =>
          wpAny (model prog w) A (forIn ifs true fun c r => if r = true then do let ok ← isTrue c env (eval c env); pure (ForInStep.yield ok) else pure (ForInStep.yield r)) (fun ok s₃ =>
            if ok = true then wpAny (model prog w) A (eval elt env) (fun x s₄ =>
              wpAny (model prog w) A (call (.builtin "list.append") [acc, x]) (fun _ s₅ => ∃ m, m < n ∧ J m s₅) (fun _ _ => False) s₄) (fun _ _ => False) s₃
            else ∃ m, m < n ∧ J m s₃) (fun _ _ => False) s₂) (fun _ _ => False) s₁') (fun _ _ => False) s₁) (fun _ _ => False) s)
    (n : Nat) (h : J n s) : codeAny (model prog w) A (.compLoop (.ListComp elt [⟨target, iter, ifs, 0⟩] scope pos) 0 it acc env) R s := by
  refine codeAny_loop rfl J (fun n s hI => ?_) n h
  show wpAny _ A ((compTurn (.ListComp elt [⟨target, iter, ifs, 0⟩] scope pos) 0 it acc env).onRaise (fun x => do noteFrame x env; theTreesLotGoes x)) _ _ s
  refine wpAny_noted ?_
  rw [compTurn_list]
  refine wpAny_bind (wpAny_standAt (wpAny_bind (wpAny_mono (turn n s hI) (fun r s₁ h₁ => ?_) fun _ _ h' => h'.elim)))
  cases r with
  | none => exact wpAny_pure h₁
  | some v =>
    refine wpAny_bind (wpAny_mono h₁ (fun _ s₁' h₁' => ?_) fun _ _ h' => h'.elim)
    refine wpAny_bind (wpAny_mono h₁' (fun _ s₂ h₂ => wpAny_bind (wpAny_mono h₂ (fun ok s₃ h₃ => ?_) fun _ _ h' => h'.elim)) fun _ _ h' => h'.elim)
    cases ok with
    | false => exact wpAny_pure ⟨rfl, h₃⟩
    | true => exact wpAny_bind (wpAny_bind (wpAny_mono h₃ (fun x s₄ h₄ => wpAny_bind (wpAny_mono h₄ (fun _ s₅ h₅ => wpAny_pure (wpAny_pure ⟨rfl, h₅⟩)) fun _ _ h' => h'.elim)) fun _ _ h' => h'.elim))

noncomputable def cxComp (X : Cx) (N : List Str) (scope : Scope) (cl : List (Str × Addr)) (s : Shared) (H : Hp) (fp : List Addr) : Cx :=
  { X with N := N, s₀ := s, H₀ := H, env := compEnvC scope cl s.heap.objs.size X.env, outer := X.stack, ex := fp, fn := fun _ => false, pn := [], xe := fun _ _ => False }

structure CompSc (X : Cx) (own capt : List Str) (scope : Scope) (cl : List (Str × Addr)) (fr : List Nat) : Prop where
  clos : closureFor scope X.env = pure cl
  nocell : ∀ y ∈ scope.names, y.2 ≠ .cell
  kind : scope.kind = .function
  names : ∀ y ∈ scope.names, y.2 = .local → scope.names.lookup y.1 = some .local
  inn : ∀ y c, cl.lookup y = some c → X.env.cells.lookup y = some c
  has : ∀ y, ((relabel scope X.env).names.lookup y = some .cell ∨ (relabel scope X.env).names.lookup y = some .free) → ∃ c, cl.lookup y = some c
  cap : ∀ (k : Nat) (y : Str), capt[k]? = some y → ∃ j c, fr[k]? = some j ∧ X.N[j]? = some y ∧ X.env.scope.names.lookup y = some .cell ∧ cl.lookup y = some c ∧
    ((relabel scope X.env).names.lookup y = some .cell ∨ (relabel scope X.env).names.lookup y = some .free)
  len : capt.length = fr.length
theorem CompSc.none {X : Cx} {own : List Str} {scope : Scope} (h1 : ∀ y ∈ scope.names, y.2 ≠ .free) (h2 : ∀ y ∈ scope.names, y.2 ≠ .cell) (kind : scope.kind = .function) (names : ∀ y ∈ scope.names, y.2 = .local → scope.names.lookup y.1 = some .local) :
    CompSc X own [] scope [] [] where
  clos := closureFor_none h1
  nocell := h2
  kind := kind
  names := names
  inn := fun y c e => nomatch e
  has := fun y e => by
    have mem : ∀ (l : List (Str × NameKind)) (y : Str) (k : NameKind), l.lookup y = some k → ∃ z ∈ l, z.2 = k := by
      intro l
      induction l with
      | nil => intro y k e; cases e
      | cons a r ih =>
        intro y k e
        obtain ⟨n, q⟩ := a
        rw [List.lookup_cons] at e
        cases hy : y == n with
        | true => rw [hy] at e; exact ⟨(n, q), by simp, Option.some.inj e⟩
        | false =>
          rw [hy] at e
          refine L2.put_away fun G'948x20 h'948x20 => ?_
          obtain ⟨z, hz, e2⟩ := ih y k e
          refine h'948x20 ?_
          exact ⟨z, by simp [hz], e2⟩
    exfalso
    have same : (relabel scope X.env).names = scope.names := by
      unfold relabel
      exact map_eq_self (l := scope.names) fun x hx => by
        obtain ⟨n, k⟩ := x
        have : (k == NameKind.free) = false := by simpa using h1 _ hx
        simp [this]
    rw [same] at e
    rcases e with e | e
    · obtain ⟨z, hz, e2⟩ := mem _ _ _ e; exact h2 z hz e2
    · obtain ⟨z, hz, e2⟩ := mem _ _ _ e; exact h1 z hz e2
  cap := fun k y e => by simp at e
  len := rfl

noncomputable def st0 (own : List Str) (fr : List Nat) (σ : St) : St := own.map (fun _ => Option.none) ++ fr.map fun j => (σ[j]?).join

theorem cxComp_ok {X : Cx} {pins : List (Addr × Obj)} {σ : St} {H : Hp} {s : Shared} {own capt : List Str} {scope : Scope} {cl : List (Str × Addr)} {fr : List Nat} {fp : List Addr} (C : CompSc X own capt scope cl fr)
    (I : Inv X pins σ H s) (hf : ∀ b ∈ fp, FpOk X pins H b ∧ b < s.heap.objs.size) : (cxComp X (own ++ capt) scope cl s H fp).Ok where
  mod := I.ok.mod
  kind := C.kind
  glob := I.ok.glob
  blt := I.ok.blt
  above := Nat.le_refl _
  inj := fun x y c e1 e2 => I.ok.inj x y c (C.inn x c e1) (C.inn y c e2)
  has := fun x e => C.has x e
  cab := fun x c e _ => by cases e
  hd := I.ok.hd
  frames := I.ok.frames
  stk := .inl rfl
  exf := fun b hb => ⟨Nat.ne_of_lt (hf b hb).2, fun x c e => (hf b hb).1.2.2.2.2.1 x c (C.inn x c e)⟩
  bs := I.bs
  bsz := Nat.le_trans I.ok.bsz I.sz
  noex := fun b o e hb => by
    rcases (hf b hb).1.2.2.2.1 with z | z
    · exact I.ok.noex b o e z
    · exact absurd (Nat.lt_of_lt_of_le (Heap.lt_size e) (Nat.le_trans I.ok.bsz z)) (Nat.lt_irrefl _)
  exfs := fun b hb z => by
    rcases List.mem_cons.mp (I.stkSub b z) with e | z
    · exact (hf b hb).1.2.1 e
    · exact (hf b hb).1.2.2.1 z
  funs := I.stack
  frf := I.stkFree

theorem cxComp_start {X : Cx} {pins : List (Addr × Obj)} {σ : St} {H : Hp} {s : Shared} {own capt : List Str} {scope : Scope} {cl : List (Str × Addr)} {fr : List Nat} {fp : List Addr} {h' : Heap} {t' : Nat} {m' : Str → Option Value} (C : CompSc X own capt scope cl fr)
    (I : Inv X pins σ H s) (hf : ∀ b ∈ fp, FpOk X pins H b ∧ b < s.heap.objs.size) (hn : h'.Ns s.heap.objs.size m') (k : ∀ b o, s.heap.get? b = some o → h'.get? b = some o) :
    Inv (cxComp X (own ++ capt) scope cl s H fp) [] (st0 own fr σ) H { s with heap := h', toks := t' } where
  ok := cxComp_ok C I hf
  os := rfl
  bare := I.bare
  base := Un.kept k
  loc := by
    refine L2.put_away fun G'951x8 h'951x8 => ?_
    obtain ⟨m, _, hl⟩ := I.loc
    refine h'951x8 ?_
    refine ⟨m', hn, fun i y v e1 e2 _ => ?_⟩
    have e1' : (own ++ capt)[i]? = some y := e1
    unfold st0 at e2
    by_cases hi : i < own.length
    · rw [List.getElem?_append_left (by simpa using hi)] at e2
      rw [List.getElem?_map] at e2
      cases q : own[i]? with
      | none => rw [q] at e2; cases e2
      | some _ => rw [q] at e2; cases e2
    · rw [List.getElem?_append_right (by simpa using hi)] at e2
      rw [List.getElem?_append_right (by simpa using hi)] at e1'
      simp only [List.length_map] at e2
      refine L2.put_away fun G'951x21 h'951x21 => ?_
      obtain ⟨j, c, f1, f2, f3, f4, f5⟩ := C.cap _ y e1'
      refine h'951x21 ?_
      rw [List.getElem?_map, f1] at e2
      have e3 : (σ[j]?).join = some v := Option.some.inj e2
      have e4 : σ[j]? = some (some v) := by
        cases q : σ[j]? with
        | none => rw [q] at e3; cases e3
        | some z => rw [q] at e3; exact congrArg some e3
      refine L2.put_away fun G'951x28 h'951x28 => ?_
      obtain ⟨u, r, l⟩ := hl j y v f2 e4 (.inr (.inl f3))
      refine h'951x28 ?_
      refine ⟨u, r, .inr ⟨f5, c, f4, ?_⟩⟩
      rcases l with ⟨k1, _⟩ | ⟨_, c', h1, h2⟩
      · have k1' : X.env.scope.names.lookup y = some .local := k1
        rw [f3] at k1'; cases k1'
      · rw [C.inn y c f4] at h1
        cases h1
        refine L2.put_away fun G'951x35 h'951x35 => ?_
        obtain ⟨o, ho, hd⟩ := h2
        refine h'951x35 ?_
        exact ⟨o, k _ _ ho, hd⟩
  cell := fun y c e => by
    refine L2.put_away fun G'951x38 h'951x38 => ?_
    obtain ⟨v, o, ho, hd⟩ := I.cell y c (C.inn y c e)
    refine h'951x38 ?_
    exact ⟨v, o, k _ _ ho, hd⟩
  free := I.hok.fresh (Nat.le_refl _)
  freeC := fun y c e => I.freeC y c (C.inn y c e)
  pin := fun p hp => by
    have : p ∈ ([] : List (Addr × Obj)) := hp
    cases this
  hok := I.hok.kept k
  len := by
    show (st0 own fr σ).length = (own ++ capt).length
    unfold st0
    simp [C.len]

theorem cxComp_end {X : Cx} {pins : List (Addr × Obj)} {σ σ' : St} {H H' : Hp} {s s' : Shared} {N : List Str} {scope : Scope} {cl : List (Str × Addr)} {fp : List Addr} {pins' : List (Addr × Obj)} {h' : Heap}
    (I : Inv X pins σ H s) (hf : ∀ b ∈ fp, FpOk X pins H b ∧ b < s.heap.objs.size) (J : Inv (cxComp X N scope cl s H fp) pins' σ' H' s') (hs : Heap.SameBut s.heap.objs.size s'.heap h') :
    Inv X pins σ H' { s' with heap := h' } := by
  have fr : H' s.heap.objs.size = none := J.free
  have ne : ∀ {b : Addr} {o : Obj}, s.heap.get? b = some o → b ≠ s.heap.objs.size := fun e => Nat.ne_of_lt (Heap.lt_size e)
  have B : Un (frs X.stack) fp H H' s.heap s'.heap := J.base
  refine I.call' (s' := { s' with heap := h' }) (ch := fp) J.os ?_ ?_ J.bare fun b hb => ⟨(hf b hb).1.2.2.2.1, (hf b hb).1.2.1, (hf b hb).1.2.2.2.2.1, (hf b hb).1.2.2.2.2.2⟩
  · exact ⟨fun b o e n h1 h2 => (hs.2 b (ne e)).trans (B.keep b o e n h1 h2), fun b o e n h1 h2 => let ⟨sl, q⟩ := B.slot b o e n h1 h2; ⟨sl, (hs.2 b (ne e)).trans q⟩, B.free,
      fun b o e h1 => let ⟨o', q⟩ := B.there b o e h1; ⟨o', (hs.2 b (ne e)).trans q⟩, B.tups, B.frzs, B.tbls⟩
  · intro b ob e
    refine (J.hok b ob e).stay (fun c w' hc q => (hs.2 c ?_).trans q) (fun _ q => q) fun _ _ q => q
    rintro rfl
    rcases hc with rfl | hc
    · rw [fr] at e; cases e
    · rw [fr] at hc; cases hc

noncomputable def PTs (X : Cx) (ifs : List Expr) (t : TT) : Prop :=
  ∀ (pins : List (Addr × Obj)) (s : Shared) (σ : St) (H : Hp) (Q : Bool → Hp → Prop), Inv X pins σ H s → t σ H Q →
    wpAny (model X.prog X.w) X.A (forIn ifs true fun c r => if r = true then do let ok ← isTrue c X.env (eval c X.env); pure (ForInStep.yield ok) else pure (ForInStep.yield r)) (TP X pins σ Q) X.xe s
noncomputable def tTrue : TT := fun _ H Q => Q true H
theorem pts_nil {X : Cx} : PTs X [] tTrue := fun _ _ _ H _ I h => wpAny_tests_nil ⟨H, I, h⟩
noncomputable def tComp (wi : TI) (g : TG) (tt : TT) (te : TE) (own : List Str) (fr : List Nat) : TE := fun σ H Q => wi σ H fun J H1 => ∀ D, H1 D = none → ∃ W : Nat → Nat → St → Hp → Prop, (∃ m, W 0 m (st0 own fr σ) (upd H1 D (.lst []))) ∧ ∀ i m σc H, W i m σc H →
  (J.stop i H ∧ Q (.ref D) H) ∨ (J.go i H ∧ ∃ N : St → Hp → Prop, (∀ σ' H', N σ' H' → ∃ m', m' < m ∧ W (i + 1) m' σ' H') ∧ ∀ x H', J.yld i H x H' → g x σc H' fun σ2 H2 => tt σ2 H2 fun b H3 =>
    if b = true then te σ2 H3 fun y H4 => ∃ ys, H4 D = some (.lst ys) ∧ ys.length < sizeLine ∧ N σ2 (upd H4 D (.lst (ys ++ [y]))) else N σ2 H3)

theorem comp_core {X : Cx} {own capt : List Str} {scope : Scope} {cl : List (Str × Addr)} {fr : List Nat} {tg iter elt : Expr} {ifs : List Expr} {wi : TI} {g : TG} {tt : TT} {te : TE} {pos : Pos} (C : CompSc X own capt scope cl fr) (hc : X.calm = true)
    (hi : PI X tg iter wi) (hg : ∀ s H fp, PG (cxComp X (own ++ capt) scope cl s H fp) tg g) (ht : ∀ s H fp, PTs (cxComp X (own ++ capt) scope cl s H fp) ifs tt) (he : ∀ s H fp, PE (cxComp X (own ++ capt) scope cl s H fp) elt te)
    {pins : List (Addr × Obj)} {s : Shared} {σ : St} {H : Hp} {Q : VK} {RR : Value → Addr → Result → Shared → Prop} (I : Inv X pins σ H s) (h : tComp wi g tt te own fr σ H Q)
    (hR : ∀ (D C : Addr) (H' : Hp) (s' : Shared) (m : Str → Option Value), s'.heap.Ns C m → FpOk X pins H' C → (∀ h', Heap.SameBut C s'.heap h' → Inv X pins σ H' { s' with heap := h' }) → Q (.ref D) H' → RR (.ref D) C (.ok .next) s') :
    wpAny (model X.prog X.w) X.A (eval iter X.env) (fun x s₁ => wpAny (model X.prog X.w) X.A (pyIter x) (fun it s₂ => wpAny (model X.prog X.w) X.A (newList []) (fun acc s₃ =>
      wpAny (model X.prog X.w) X.A (newFunctionEnv scope X.env.globals cl [] X.env.qual none .none (some X.env)) (fun cenv s₄ =>
        codeAny (model X.prog X.w) X.A (.compStart (.ListComp elt [⟨tg, iter, ifs, 0⟩] scope pos) 0 it acc { cenv with scope := relabel scope X.env }) (RR acc cenv.locals) s₄) X.xe s₃) X.xe s₂) X.xe s₁) X.xe s := by
  refine thn (hi pins s σ H _ I h) fun v s1 h1 => thn h1 fun itv s2 h2 => ?_
  refine L2.put_away fun G'958x8 h'958x8 => ?_
  obtain ⟨it, fp, tn, J, H2, e, I2, T, st2, f2, h2⟩ := h2
  refine h'958x8 ?_
  subst e
  refine L2.put_away fun G'958x10 h'958x10 => ?_
  obtain ⟨W, ⟨m0, w0⟩, turn⟩ := h2 s2.heap.objs.size I2.fresh
  refine h'958x10 ?_
  refine wpAny_newObj_type ?_
  have I3 : Inv X pins σ (upd H2 s2.heap.objs.size (.lst [])) { s2 with heap := s2.heap.push { cls := .type "list", data := .seq ([] : List Value).toArray } } := I2.lnew (ys := []) (its := []) (t' := s2.toks) .nil (Nat.zero_le _)
  generalize hs3 : ({ s2 with heap := s2.heap.push { cls := .type "list", data := .seq ([] : List Value).toArray } } : Shared) = s3 at I3 ⊢
  have keep3 : ∀ b o, s2.heap.get? b = some o → s3.heap.get? b = some o := fun b o e => by rw [← hs3]; exact Heap.get?_push_of_some _ e
  have sz3 : s2.heap.objs.size < s3.heap.objs.size := by rw [← hs3]; show _ < (s2.heap.push _).objs.size; rw [Heap.size_push]; exact Nat.lt_succ_self _
  have fin : ∀ b ∈ fp, b < s2.heap.objs.size := fun b hb => by obtain ⟨o, e, _⟩ := T.obj _ _ st2 b hb; exact Heap.lt_size e
  have f3 : ∀ b ∈ fp, FpOk X pins (upd H2 s2.heap.objs.size (.lst [])) b ∧ b < s3.heap.objs.size := fun b hb => by
    obtain ⟨a1, a2⟩ := f2 b hb
    exact ⟨⟨by rw [upd_ne (Nat.ne_of_lt (fin b hb))]; exact a1, a2⟩, Nat.lt_trans (fin b hb) sz3⟩
  refine wpAny_newFunctionEnv C.nocell (by intro y hy; simp at hy) (fun h4 hn4 hs4 => ?_) C.kind
  have keep4 : ∀ b o, s3.heap.get? b = some o → h4.get? b = some o := fun b o e => (hs4.2 b (Nat.ne_of_lt (Heap.lt_size e))).trans (Heap.get?_push_of_some _ e)
  have I4 : Inv (cxComp X (own ++ capt) scope cl s3 (upd H2 s2.heap.objs.size (.lst [])) fp) [] (st0 own fr σ) (upd H2 s2.heap.objs.size (.lst [])) { s3 with heap := h4, toks := s3.toks + ([] : List (Str × Value)).length } := cxComp_start C I3 f3 hn4 keep4
  have st4 : tn 0 h4 := T.keep _ _ _ st2 fun b _ o e => keep4 b o (keep3 b o e)
  generalize hs5 : ({ s3 with heap := h4, toks := s3.toks + ([] : List (Str × Value)).length } : Shared) = s5 at I4 ⊢
  have st5 : tn 0 s5.heap := by rw [← hs5]; exact st4
  generalize hX : cxComp X (own ++ capt) scope cl s3 (upd H2 s2.heap.objs.size (.lst [])) fp = Y at I4
  have hY1 : Y.prog = X.prog := by rw [← hX]; rfl
  have hY2 : Y.w = X.w := by rw [← hX]; rfl
  have hY3 : Y.K = X.K := by rw [← hX]; rfl
  have hY4 : Y.A = X.A := by rw [← hX]; rfl
  have hY5 : Y.calm = true := by rw [← hX]; exact hc
  have hY6 : Y.env = compEnvC scope cl s3.heap.objs.size X.env := by rw [← hX]; rfl
  have hY7 : Y.xe = fun _ _ => False := by rw [← hX]; rfl
  have gY : PG Y tg g := by rw [← hX]; exact hg _ _ _
  have tY : PTs Y ifs tt := by rw [← hX]; exact ht _ _ _
  have eY : PE Y elt te := by rw [← hX]; exact he _ _ _
  have fY : ∀ {H' : Hp}, (∀ b ∈ fp, H' b = none) → ∀ b ∈ fp, FpOk Y [] H' b := fun {H'} hn b hb => by
    have ok := I4.ok
    refine ⟨hn b hb, (ok.exf b (by rw [← hX]; exact hb)).1, ok.exfs b (by rw [← hX]; exact hb), .inl (by rw [← hX]; exact hb), fun x c e => (ok.exf b (by rw [← hX]; exact hb)).2 x c e, fun p hp => ?_⟩
    have : p ∈ ([] : List (Addr × Obj)) := by rw [← hX] at hp; exact hp
    cases this
  have loop : ∀ s6, s6 = s5 → codeAny (model X.prog X.w) X.A (.compLoop (.ListComp elt [⟨tg, iter, ifs, 0⟩] scope pos) 0 (.ref it) (.ref s2.heap.objs.size) (compEnvC scope cl s3.heap.objs.size X.env)) (RR (.ref s2.heap.objs.size) s3.heap.objs.size) s6 := by
    rintro s6 rfl
    refine compLoop_any (fun n s' => ∃ i σ' H', Inv Y [] σ' H' s' ∧ tn i s'.heap ∧ (∀ b ∈ fp, H' b = none) ∧ W i n σ' H') ?_ m0 ⟨0, _, _, I4, st5, fun b hb => (f3 b hb).1.1, w0⟩
    rintro n s7 ⟨i, σ7, H7, I7, st7, fr7, w7⟩
    have pn := hY1; have pw := hY2
    rcases turn i n σ7 H7 w7 with ⟨stop, qn⟩ | ⟨go, N, hN, step⟩
    · have z := T.done Y hY1 hY2 hY3 hY5 i [] s7 σ7 H7 (fun _ _ => False) I7 (fY fr7) st7 stop
      rw [hY4] at z
      refine thn z fun r s8 ⟨hr, I8⟩ => ?_
      subst hr
      refine L2.put_away fun G'958x52 h'958x52 => ?_
      obtain ⟨m8, hn8, _⟩ := I8.loc
      refine h'958x52 ?_
      rw [hY6] at hn8
      have fC : H7 s3.heap.objs.size = none := by have z := I8.free; rw [hY6] at z; exact z
      refine hR _ _ H7 s8 m8 hn8 (I3.fpOk (Nat.le_refl _) fC) (fun h' sb => ?_) qn
      rw [← hX] at I8
      exact cxComp_end I3 f3 I8 sb
    · have z := T.item Y hY1 hY2 hY3 hY5 i [] s7 σ7 H7 (fun _ _ => False) I7 (fY fr7) st7 go
      rw [hY4] at z
      refine thn z fun r s8 ⟨u, hr, h8⟩ => ?_
      subst hr
      refine thn h8 fun _ s9 ⟨x, H9, I9, r9, y9, st9, fr9⟩ => ?_
      have I9' := I9.pinned (fY fr9) (T.obj _ _ st9)
      have z2 := gY _ s9 σ7 H9 x u _ I9' r9 (step x H9 y9)
      rw [hY1, hY2, hY4, hY6, hY7] at z2
      refine thn z2 fun _ sA ⟨σA, HA, IA, qA⟩ => ?_
      have z3 := tY _ sA σA HA _ IA qA
      rw [hY1, hY2, hY4, hY6, hY7] at z3
      refine thn z3 fun b sB ⟨HB, IB, qB⟩ => ?_
      have again : ∀ {σZ : St} {HZ : Hp} {sZ : Shared}, Inv Y ([] ++ pinsAt fp s9.heap) σZ HZ sZ → N σZ HZ → ∃ m, m < n ∧ ∃ i σ' H', Inv Y [] σ' H' sZ ∧ tn i sZ.heap ∧ (∀ b ∈ fp, H' b = none) ∧ W i m σ' H' := fun {σZ HZ sZ} IZ nZ => by
        refine L2.put_away fun G'958x71 h'958x71 => ?_
        obtain ⟨m', hm, wZ⟩ := hN σZ HZ nZ
        refine h'958x71 ?_
        refine ⟨m', hm, i + 1, σZ, HZ, IZ.unpinned, T.keep _ _ _ st9 fun b hb o e => (IZ.pin (b, o) (List.mem_append_right _ (List.mem_append_right _ (mem_pinsAt hb e)))).1, fun b hb => ?_, wZ⟩
        refine L2.put_away fun G'958x73 h'958x73 => ?_
        obtain ⟨o, e, d⟩ := T.obj _ _ st9 b hb
        refine h'958x73 ?_
        exact (IZ.pin (b, o) (List.mem_append_right _ (List.mem_append_right _ (mem_pinsAt hb e)))).2.1
      cases b with
      | false => exact again IB qB
      | true =>
        have z4 := eY _ sB σA HB _ IB qB
        rw [hY1, hY2, hY4, hY6, hY7] at z4
        refine thn z4 fun y sC ⟨vy, HC, IC, rC, ys, hD, hz, nC⟩ => ?_
        have z5 := mt_append (X := Y) _ sC σA HC (.ref s2.heap.objs.size) [vy] (.ref s2.heap.objs.size) [y] (fun _ H' => N σA H') IC rfl (.cons rC .nil) ⟨_, ys, vy, rfl, rfl, hD, hz, nC⟩
        rw [hY1, hY2, hY4, hY7] at z5
        exact thn z5 fun _ sD ⟨_, HD, ID, _, nD⟩ => again ID nD
  exact codeAny_compStart_list (loop _ rfl) (T.self _ 0 _ _ _ st5 (loop _ rfl))

theorem pe_comp {X : Cx} {own capt : List Str} {scope : Scope} {cl : List (Str × Addr)} {fr : List Nat} {tg iter elt : Expr} {ifs : List Expr} {wi : TI} {g : TG} {tt : TT} {te : TE} {pos : Pos} (C : CompSc X own capt scope cl fr) (hc : X.calm = true)
    (hi : PI X tg iter wi) (hg : ∀ s H fp, PG (cxComp X (own ++ capt) scope cl s H fp) tg g) (ht : ∀ s H fp, PTs (cxComp X (own ++ capt) scope cl s H fp) ifs tt) (he : ∀ s H fp, PE (cxComp X (own ++ capt) scope cl s H fp) elt te)
    (hs : ∀ x, foldedSetIterable iter X.env x = pure x := by intro _; rfl) : PE X (.ListComp elt [⟨tg, iter, ifs, 0⟩] scope pos) (tComp wi g tt te own fr) := by
  intro pins s σ H Q I h
  rw [eval_ListComp]
  refine wpAny_comprehension_free (use := none) rfl hs C.clos C.kind C.names ?_
  exact comp_core (RR := fun acc C => compPost (model X.prog X.w) X.A X.xe none (EP X pins σ Q) acc C) C hc hi hg ht he I h fun D C H' s' m hn _ hI q => ⟨m, hn, fun h' sb => ⟨.ref D, H', hI h' sb, rfl, q⟩⟩

theorem ps_setComp {X : Cx} {own capt : List Str} {scope : Scope} {cl : List (Str × Addr)} {fr : List Nat} {tg iter elt : Expr} {ifs : List Expr} {wi : TI} {g : TG} {tt : TT} {te : TE} {pos spos py : Pos} {y : Str} {i : Nat} (hN : X.N.Nodup) (hi' : X.N[i]? = some y) (hy : Loc X.env.scope y) (C : CompSc X own capt scope cl fr) (hc : X.calm = true)
    (hi : PI X tg iter wi) (hg : ∀ s H fp, PG (cxComp X (own ++ capt) scope cl s H fp) tg g) (ht : ∀ s H fp, PTs (cxComp X (own ++ capt) scope cl s H fp) ifs tt) (he : ∀ s H fp, PE (cxComp X (own ++ capt) scope cl s H fp) elt te)
    (hsw : swapsWith (.ListComp elt [⟨tg, iter, ifs, 0⟩] scope pos) (some (.Name y py)) spos.line X.env = pure true := by rfl)
    (hs : ∀ x, foldedSetIterable iter X.env x = pure x := by intro _; rfl) (hf : X.fn y = true ∨ X.env.scope.names.lookup y = some .local := by first | exact .inl rfl | exact .inr rfl | assumption) :
    PS X (.Assign [.Name y py] (.ListComp elt [⟨tg, iter, ifs, 0⟩] scope pos) spos) (tAsg (tComp wi g tt te own fr) (gName i)) := by
  intro pins s σ H D I h
  rw [exec_Assign_Name_used _ _ _ _ hsw]
  refine wpAny_bind (wpAny_standAt (wpAny_bind ?_))
  show wpAny _ X.A (do let _ ← comprehension (.ListComp elt [⟨tg, iter, ifs, 0⟩] scope pos) scope X.env _ (newList []) false (eval iter X.env) (some (assign (.Name y py) X.env))) _ _ s
  refine wpAny_bind (wpAny_mono (wpAny_comprehension_free (use := some (assign (.Name y py) X.env)) (Q := fun _ s' => SP X pins D .next s') rfl hs C.clos C.kind C.names ?_) (fun _ s' hq => wpAny_pure (wpAny_pure hq)) fun _ _ e => e)
  refine comp_core (RR := fun acc C => compPost (model X.prog X.w) X.A X.xe (some (assign (.Name y py) X.env)) (fun _ s' => SP X pins D .next s') acc C) C hc hi hg ht he I h fun Dn Cn H' s' m hn F hI q => ?_
  show wpAny _ X.A (assign (.Name y py) X.env (.ref Dn)) _ _ _
  have IX : Inv X pins σ H' s' := hI s'.heap (.refl ..)
  refine wpAny_assign_Name (store_ok2 IX hN hi' hy (v := .ref Dn) rfl (fun s'' I'' ⟨a, sb, ha⟩ => ?_) hf)
  have na : Cn ≠ a := by
    rcases ha with z | z
    · rw [z]; exact F.2.1
    · exact fun q => F.2.2.2.2.1 _ _ z q.symm
  refine ⟨m, hn.sameBut sb na, fun h' sb' => ⟨_, H', ?_, q⟩⟩
  exact I''.turned (t' := s''.toks) (fun b o hb e => (sb'.2 b hb).trans e) F.1 F.2.1 F.2.2.2.1 F.2.2.2.2.1 F.2.2.2.2.2
end L2
namespace L2
open PySem PySem.Spec PyProof.Rows
noncomputable def Has (P : Program) (w : World) (K : PySem.W.Frag) (mg : Str → Option Value) (base : Heap) (k : Nat) (x : Str) (ps : List Str) (sp : Sp) : Prop :=
  ∃ f fd, FnOk P w K mg base CX0 k f fd ps sp ∧ (∀ us : List Value, us.length = ps.length → bindArgs fd ⟨us, []⟩ = pure (ps.zip us)) ∧ PySem.W.keepIn K (.ref f) = true ∧ mg x = some (.ref f) ∧ ∃ oc od osl, K.lookup f = some ⟨oc, od, .func fd, osl⟩
theorem Has.mono {P : Program} {w : World} {K : PySem.W.Frag} {mg : Str → Option Value} {base : Heap} {j k : Nat} {x : Str} {ps : List Str} {sp : Sp} (h : Has P w K mg base j x ps sp) (hk : j ≤ k) : Has P w K mg base k x ps sp :=
  let ⟨f, fd, F, b⟩ := h
  ⟨f, fd, F.mono hk, b⟩
theorem pe_def {X : Cx} {k : Nat} {x : Str} {ps : List Str} {sp : Sp} {p pos : Pos} {e : Expr} {es : List Expr} {t : TA} (h : Has X.prog X.w X.K X.mg X.base k x ps sp) (hr : Room k X.A) (ha : PA X (e :: es) t) (hg : Gl X x := by rfl)
    (hdb : (x == ("__debug__" : Str)) = false := by decide) (he : starEach (e :: es) X.env = (false, eval e X.env) :: starEach es X.env := by rfl) (hpl : (backTo pos (starEach es X.env)).any (·.1) = false := by rfl) :
    PE X (.Call (.Name x p) (e :: es) [] pos) (tCall sp [] E0 t) := by
  refine L2.put_away fun G'967x3 h'967x3 => ?_
  obtain ⟨f, fd, F, hb, hk, hm, _⟩ := h
  refine h'967x3 ?_
  exact pe_call F hr hg hm hk (.all hb) .nil pass0 ha hdb he hpl
noncomputable def TF (K : PySem.W.Frag) (mg : Str → Option Value) (x : Str) (st : Stmt) : Prop := ∃ f fd, Fun K x x st f fd ∧ mg x = some (.ref f)
theorem tf_mk {K : PySem.W.Frag} {h : Heap} {mg : Str → Option Value} {x : Str} {st : Stmt} {f : Addr} {oc : Value} {od an : Option Addr} {osl : Array (Option Value)} {kV doc pm cdv ct : Value} (X : K.In h) (G : h.Ns mainGlobals mg)
    (a : PySem.W.nsIn K mainGlobals x = some (some (.ref f))) (l : K.lookup f = some ⟨oc, od, .func (PySem.W.fnOf x x (defArgs st) (defBody st) (defScope st) .none kV doc pm an cdv ct), osl⟩) (c : PySem.W.codeIn K cdv x = true) (k : PySem.W.keepIn K (.ref f) = true) : TF K mg x st :=
  ⟨f, _, fun_mk l c k, PySem.W.mg_of X G a⟩
theorem TF.has {P : Program} {w : World} {K : PySem.W.Frag} {mg : Str → Option Value} {base : Heap} {x : Str} {st : Stmt} {N ps : List Str} {k : Nat} {sp : Sp} (T : TF K mg x st) (S : FnScope N ps (defScope st))
    (hb : ∀ (kV doc pm : Value) (an : Option Addr) (cdv ct : Value) (us : List Value), us.length = ps.length → bindArgs (PySem.W.fnOf x x (defArgs st) (defBody st) (defScope st) .none kV doc pm an cdv ct) ⟨us, []⟩ = pure (ps.zip us))
    (len : ∀ vs H Q E, sp vs H Q E → vs.length = ps.length)
    (hbody : ∀ (f : Addr) (cdv : Value) (A : Around) (outer : List Env) (s : Shared) (H : Hp) (vs : List V) (Q : VK) (E : XK), Room k (A.deeper (envOfC x (defScope st) s.heap.objs.size f cdv)) → sp vs H Q E →
      ∃ t, PSs (cxOf CX0 P w K mg base N x (defScope st) f cdv A outer s H E).nox (defBody st) t ∧ t { nx := fun _ H' => Q .non H', rt := Q } (start N vs) H) : Has P w K mg base (k + 1) x ps sp := by
  refine L2.put_away fun G'970x5 h'970x5 => ?_
  obtain ⟨f, fd, F, m⟩ := T
  refine h'970x5 ?_
  have ok := F.ok (P := P) (w := w) (mg := mg) (base := base) S len fun cdv A outer s H vs Q E hr hsp => hbody f cdv A outer s H vs Q E hr hsp
  refine L2.put_away fun G'970x7 h'970x7 => ?_
  obtain ⟨oc, od, kV, doc, pm, an, cdv, ct, osl, rfl, lk, hcd⟩ := F.ex
  refine h'970x7 ?_
  exact ⟨f, _, ok, hb kV doc pm an cdv ct, F.kp, m, oc, od, osl, lk⟩
theorem has_law {P : Program} {w : World} {K : PySem.W.Frag} {mg : Str → Option Value} {h : Heap} {k : Nat} {sp : Sp} {fa : Addr} (KX : K.In h) (G : h.Ns mainGlobals mg) (hfa : mg "law" = some (.ref fa))
    (H : ∀ base : Heap, K.In base → base.Ns mainGlobals mg → Has P w K mg base k "law" ["script"] sp) :
    ∃ fd : FuncData, (∀ (s : Shared) (v : Value), BindsTo s fd ⟨[v], []⟩ [("script", v)]) ∧ ∀ base : Heap, K.In base → base.Ns mainGlobals mg → FnOk P w K mg base CX0 k fa fd ["script"] sp := by
  refine L2.put_away fun G'971x3 h'971x3 => ?_
  obtain ⟨f, fd, F, hb, hk, hm, oc, od, osl, hl⟩ := H h KX G
  refine h'971x3 ?_
  rw [hfa] at hm
  cases hm
  refine ⟨fd, fun s v => .of_eq (hb [v] rfl), fun base kb nb => ?_⟩
  refine L2.put_away fun G'971x7 h'971x7 => ?_
  obtain ⟨f', fd', F', _, _, hm', oc', od', osl', hl'⟩ := H base kb nb
  refine h'971x7 ?_
  rw [hfa] at hm'
  cases hm'
  rw [hl] at hl'
  cases hl'
  exact F'

theorem bits_weight {ns : List Int} : ∀ z ∈ ns, Builtin.Int.intBits z ≤ PySem.W.WData.weightAll (ns.map PySem.W.WData.int) := by
  induction ns with
  | nil => intro z hz; cases hz
  | cons a r ih =>
    intro z hz
    rw [List.map_cons]
    show _ ≤ PySem.W.WData.weight (.int a) + 1 + PySem.W.WData.weightAll (r.map PySem.W.WData.int)
    rcases List.mem_cons.mp hz with e | hz
    · subst e
      have : PySem.W.WData.weight (.int z) = Builtin.Int.intBits z := rfl
      (clear ih; omega)
    · have := ih z hz
      (clear ih; omega)
open PySem.W in
theorem law_walk {l : PySem.W.OpenLaw} {k : Nat} {q : Program} {loose : List Str} {XP : (Str → Option Value) → Heap → Prop} {YP : World → Heap → Prop} {d : DefRec} {K : Params → PySem.W.Frag} {sp : PySem.W.Frag → Sp}
    (hn : l.most = some 63) (hdf : d.params.defaults = []) (hr : Room k callerA)
    (hY : ∀ (w : World) (h : Heap), YP w h → (K w.params).In h)
    (F : ∀ (w : World) (mg : Str → Option Value) (fa : Addr) (h : Heap), (K w.params).In h → h.Ns mainGlobals mg → mg d.name = some (.ref fa) →
      ∃ fd : FuncData, (∀ (s : Shared) (u : Value), BindsTo s fd ⟨[u], []⟩ [("script", u)]) ∧
        ∀ base : Heap, (K w.params).In base → base.Ns mainGlobals mg → FnOk l.prog w (K w.params) mg base CX0 k fa fd ["script"] (sp (K w.params)))
    (hsp : ∀ (K : PySem.W.Frag) (H : Hp) (a : Addr) (ns : List Int), ns.length ≤ 63 → (∀ z ∈ ns, Builtin.Int.intBits z ≤ 2 ^ 20) → SqL K H a (ns.map V.int) → sp K [.ref a] H (fun v _ => v = .bl true) fun _ _ _ => False) :
    PySem.W.WalkO q loose XP YP l.row.toRowW d [] (fun f vs => PySem.call f vs) := by
  intro w s₀ s₁ mg mb G Y fa o pm cd doc dV kV ho hd hcd hD hmg hg args vals as hpre hlay hrd hwl hlo
  obtain rfl : dV = .none := Dflts.none hD hdf
  obtain rfl : kV = .none := Dflts.noKw hD
  refine L2.put_away fun G'974x12 h'974x12 => ?_
  obtain ⟨a, vs, ns, rfl, rfl, hobj, hints, hlen⟩ := Att.script_of hn hpre hwl
  refine h'974x12 ?_
  have hbits : ∀ z ∈ ns, Builtin.Int.intBits z ≤ 2 ^ 20 := fun z hz => by
    have h1 : WData.layable (WData.list (ns.map WData.int)) = true := by
      have := hlay
      simp only [WData.layableAll, List.all_cons, List.all_nil, Bool.and_true] at this
      exact this
    unfold WData.layable at h1
    have h2 : WData.weight (WData.list (ns.map WData.int)) ≤ 2 ^ 20 := by
      have := (Bool.and_eq_true_iff.mp h1).2
      exact of_decide_eq_true this
    exact Nat.le_trans (bits_weight z hz) h2
  have KX := hY w _ Y
  refine L2.put_away fun G'974x24 h'974x24 => ?_
  obtain ⟨fd, hb, hF⟩ := F w mg fa _ KX G.T.g hmg
  refine h'974x24 ?_
  refine enter_call (codeAny_mono (law_call (CX := CX0) (sp := sp (K w.params)) KX G.T.g G.T.b G.T.builtins G.T.nolimit hg hobj hints (Nat.le_trans hlen (by decide)) hr hF hb (fun H _ hS => hsp _ H a ns hlen hbits hS) fun _ _ _ z => z) fun r s' hq => ?_)
  refine L2.put_away fun G'974x26 h'974x26 => ?_
  obtain ⟨rfl, h2, h3, h4⟩ := hq
  refine h'974x26 ?_
  exact ⟨.inl ⟨.bool true, .bool true, [], rfl, fun _ => rfl, .bool true, Att.post_true l _, fun _ => ⟨List.Pairwise.nil, fun _ hm => (nomatch hm)⟩⟩, h2, h3, h4⟩

theorem op_mulA {X : Cx} : OpR X (binaryOp .Mult) (rI IntMulOk fun i j => .int (i * j)) := opI fun _ _ _ _ _ _ _ hc q => mul_int q hc
noncomputable def CDivA (_ j : Int) : Prop := 0 < j ∧ j.natAbs.log2 < 9000
theorem op_fdivA {X : Cx} : OpR X (binaryOp .FloorDiv) (rI CDivA fun i j => .int (i / j)) := opI fun i j _ _ _ _ _ hc q => by
  refine floordiv_int (by have := hc.1; omega) ?_ (.inl (PyProof.noPylong_of_log2 hc.2))
  rw [Int.fdiv_eq_ediv_of_nonneg i (Int.le_of_lt hc.1)]
  exact q
theorem mok {i j : Int} (m n : Nat) (h1 : i.natAbs < 2 ^ m) (h2 : j.natAbs < 2 ^ n) (h : m + n ≤ 134217728) : IntMulOk i j := IntMulOk.of_le (intBits_le_iff.mpr h1) (intBits_le_iff.mpr h2) h
theorem mokS {i j : Int} (h1 : -(2 ^ 64) < j) (h2 : j < 2 ^ 64) : IntMulOk i j := .of_right (intBits_le_64 h1 h2)
theorem divA {i j : Int} (n : Nat) (h0 : 0 < j) (h : j.natAbs < 2 ^ n) (hn : n ≤ 9000) : CDivA i j := ⟨h0, Nat.lt_of_lt_of_le ((Nat.log2_lt (by (clear h hn; omega))).mpr h) hn⟩

noncomputable def rIsI (K : PySem.W.Frag) : List V → Hp → VK → Prop := fun xs H Q => ∃ x T t b, xs = [x, .ty T] ∧ TyOf K H x t ∧ PySem.W.kitOne K t (.type T) = some b ∧ Q (.bl b) H
theorem call_isI {X : Cx} : CallR X (.builtin "isinstance") (rIsI X.K) := by
  intro pins s σ H xs us Q I r h
  refine L2.put_away fun G'984x2 h'984x2 => ?_
  obtain ⟨x, T, t, b, rfl, ty, e, q⟩ := h
  refine h'984x2 ?_
  refine L2.put_away fun G'984x3 h'984x3 => ?_
  obtain ⟨u, c, rfl, r1, r2⟩ := Vals.two r
  refine h'984x3 ?_
  obtain rfl : c = Value.type T := r2
  exact isinst_ok I r1 ty e fun tk => ⟨.bl b, H, I.tok tk, rfl, q⟩

section
variable {D : Ends} {σ : St} {H : Hp} {Q : VK}
theorem tSeq_ap {t u : TS} : tSeq t u D σ H = t { D with nx := u D } σ H := rfl
theorem tIfS_ap {c : TT} {t u : TS} : tIfS c t u D σ H = c σ H fun b H1 => if b = true then t D σ H1 else u D σ H1 := rfl
theorem tAsg_ap {te : TE} {g : TG} : tAsg te g D σ H = te σ H fun x H1 => g x σ H1 D.nx := rfl
theorem gName_ap {i : Nat} {v : V} {R : St → Hp → Prop} : gName i v σ H R = R (σ.set i (some v)) H := rfl
theorem tRet_ap {te : TE} : tRet te D σ H = te σ H D.rt := rfl
theorem tRetN_ap : tRetN D σ H = D.rt .non H := rfl
theorem tNext_ap : tNext D σ H = D.nx σ H := rfl
theorem tBreak_ap : tBreak D σ H = D.bk σ H := rfl
theorem tCont_ap : tCont D σ H = D.ct σ H := rfl
theorem tDrop_ap {te : TE} : tDrop te D σ H = te σ H fun _ H1 => D.nx σ H1 := rfl
theorem tC_ap {v : V} : tC v σ H Q = Q v H := rfl
theorem tVar_ap {i : Nat} {v : V} (h : σ[i]? = some (some v)) : tVar i σ H Q = Q v H := propext ⟨fun ⟨u, e, q⟩ => by rw [h] at e; cases e; exact q, fun q => ⟨v, h, q⟩⟩
theorem tVar_0 {v : V} {l : St} : tVar 0 (some v :: l) H Q = Q v H := tVar_ap rfl
theorem tVar_s {i : Nat} {o : Option V} {l : St} : tVar (i + 1) (o :: l) H Q = tVar i l H Q := rfl
theorem tOp_ap {r : R2} {ta tb : TE} : tOp r ta tb σ H Q = ta σ H fun x H1 => tb σ H1 fun y H2 => r x y H2 Q := rfl
theorem tUn_ap {r : V → Hp → VK → Prop} {ta : TE} : tUn r ta σ H Q = ta σ H fun x H1 => r x H1 Q := rfl
theorem rI0_ap {g : Int → Int → V} {i j : Int} : rI0 g (.int i) (.int j) H Q = Q (g i j) H := propext ⟨fun ⟨a, b, e1, e2, q⟩ => by cases e1; cases e2; exact q, fun q => ⟨i, j, rfl, rfl, q⟩⟩
theorem rI_ap {C : Int → Int → Prop} {g : Int → Int → V} {i j : Int} : rI C g (.int i) (.int j) H Q = (C i j ∧ Q (g i j) H) := propext ⟨fun ⟨a, b, e1, e2, q⟩ => by cases e1; cases e2; exact q, fun q => ⟨i, j, rfl, rfl, q⟩⟩
theorem rU_ap {g : Int → V} {i : Int} : rU g (.int i) H Q = Q (g i) H := propext ⟨fun ⟨a, e1, q⟩ => by cases e1; exact q, fun q => ⟨i, rfl, q⟩⟩
theorem rEq_int {i j : Int} : rEq (.int i) (.int j) H Q = Q (.bl (decide (i = j))) H := propext ⟨fun ⟨_, q⟩ => by simpa using q, fun q => ⟨rfl, by simpa using q⟩⟩
theorem rNe_int {i j : Int} : rNe (.int i) (.int j) H Q = Q (.bl (!decide (i = j))) H := propext ⟨fun ⟨_, q⟩ => by simpa using q, fun q => ⟨rfl, by simpa using q⟩⟩
theorem tTest_ap {t : TE} {R : Bool → Hp → Prop} : tTest t σ H R = t σ H fun x H' => ∃ k, x = .bl k ∧ R k H' := rfl
theorem ex_bl {b : Bool} {R : Bool → Prop} : (∃ k, V.bl b = .bl k ∧ R k) = R b := propext ⟨fun ⟨k, e, q⟩ => by cases e; exact q, fun q => ⟨b, rfl, q⟩⟩
theorem ex_ref {a : Addr} {R : Addr → Prop} : (∃ k, V.ref a = .ref k ∧ R k) = R a := propext ⟨fun ⟨k, e, q⟩ => by cases e; exact q, fun q => ⟨a, rfl, q⟩⟩
theorem ex_int {a : Int} {R : Int → Prop} : (∃ k, V.int a = .int k ∧ R k) = R a := propext ⟨fun ⟨k, e, q⟩ => by cases e; exact q, fun q => ⟨a, rfl, q⟩⟩
theorem tAnd_ap {t u : TT} {R : Bool → Hp → Prop} : tAnd t u σ H R = t σ H fun c H1 => if c = true then u σ H1 R else R false H1 := rfl
theorem tOr_ap {t u : TT} {R : Bool → Hp → Prop} : tOr t u σ H R = t σ H fun c H1 => if c = true then R true H1 else u σ H1 R := rfl
theorem tNot_ap {t : TT} {R : Bool → Hp → Prop} : tNot t σ H R = t σ H fun c H1 => R (!c) H1 := rfl
theorem tAndV_ap {ta tb : TE} : tAndV ta tb σ H Q = ta σ H fun x H1 => ∃ c, x = .bl c ∧ if c = true then tb σ H1 Q else Q (.bl false) H1 := rfl
theorem tOrV_ap {ta tb : TE} : tOrV ta tb σ H Q = ta σ H fun x H1 => ∃ c, x = .bl c ∧ if c = true then Q (.bl true) H1 else tb σ H1 Q := rfl
theorem tNotV_ap {ta : TE} : tNotV ta σ H Q = ta σ H fun x H1 => ∃ c, x = .bl c ∧ Q (.bl (!c)) H1 := rfl
theorem tIf_ap {t : TT} {ta tb : TE} : tIf t ta tb σ H Q = t σ H fun c H1 => if c = true then ta σ H1 Q else tb σ H1 Q := rfl
theorem tNil_ap {R : List V → Hp → Prop} : tNil σ H R = R [] H := rfl
theorem tCons_ap {ta : TE} {tr : TA} {R : List V → Hp → Prop} : tCons ta tr σ H R = ta σ H fun x H1 => tr σ H1 fun xs H2 => R (x :: xs) H2 := rfl
theorem tTup_ap {t : TA} : tTup t σ H Q = t σ H fun xs H1 => xs.length ≤ sizeLine ∧ ∀ p, H1 p = none → Q (.ref p) (upd H1 p (.tup xs)) := rfl
theorem tLst_ap {t : TA} : tLst t σ H Q = t σ H fun xs H1 => xs.length ≤ sizeLine ∧ ∀ p, H1 p = none → Q (.ref p) (upd H1 p (.lst xs)) := rfl
theorem tCall_ap {sp : Sp} {dvs : List V} {E : XK} {t : TA} : tCall sp dvs E t σ H Q = t σ H fun vs H1 => sp (vs ++ dvs) H1 Q E := rfl
theorem tCB_ap {r : List V → Hp → VK → Prop} {t : TA} : tCB r t σ H Q = t σ H fun vs H1 => r vs H1 Q := rfl
theorem tChain_ap {r r' : R2} {ta tb tc : TE} : tChain r r' ta tb tc σ H Q = ta σ H fun x H1 => tb σ H1 fun y H2 => r x y H2 fun z H3 => ∃ k, z = .bl k ∧ (if k = true then tc σ H3 fun w' H4 => r' y w' H4 Q else Q (.bl false) H3) := rfl
theorem tPar_ap {i j : Nat} {ta : TA} : tPar i j ta D σ H = ta σ H fun vs H1 => ∃ v w, vs = [v, w] ∧ D.nx ((σ.set i (some v)).set j (some w)) H1 := rfl
theorem ex_two {v w : V} {R : V → V → Prop} : (∃ a b, [v, w] = [a, b] ∧ R a b) = R v w := propext ⟨fun ⟨a, b, e, q⟩ => by cases e; exact q, fun q => ⟨v, w, rfl, q⟩⟩
theorem tAug_ap {i : Nat} {te : TE} {ti : TIp} : tAug i te ti D σ H = tVar i σ H fun x _ => te σ H fun y H1 => ti x y H1 fun z H2 => D.nx (σ.set i (some z)) H2 := rfl
theorem ipI_ap {f : Int → Int → Int} {i j : Int} : ipI f (.int i) (.int j) H Q = Q (.int (f i j)) H := propext ⟨fun ⟨a, b, e1, e2, q⟩ => by cases e1; cases e2; exact q, fun q => ⟨i, j, rfl, rfl, q⟩⟩
theorem tSl_ap {r : V → Option Int → Option Int → Hp → VK → Prop} {te : TE} {tl th : TO} : tSl r te tl th σ H Q = te σ H fun x H1 => tl σ H1 fun l H2 => th σ H2 fun u H3 => r x l u H3 Q := rfl
theorem tNoPart_ap {R : Option Int → Hp → Prop} : tNoPart σ H R = R none H := rfl
theorem tPart_ap {t : TE} {R : Option Int → Hp → Prop} : tPart t σ H R = t σ H fun x H1 => ∃ i, x = .int i ∧ R (some i) H1 := rfl
theorem tBM_ap {K : PySem.W.Frag} {T : String} {r : V → List V → Hp → VK → Prop} {to : TE} {t : TA} : tBM K T r to t σ H Q = to σ H fun x H1 => tyV K T x H1 ∧ t σ H1 fun xs H2 => r x xs H2 Q := rfl
theorem tTrue_ap {R : Bool → Hp → Prop} : tTrue σ H R = R true H := rfl
theorem gSub_ap {to ti : TE} {t : TSet} {v : V} {R : St → Hp → Prop} : gSub to ti t v σ H R = to σ H fun o H1 => ti σ H1 fun i H2 => t o i v H2 fun H3 => R σ H3 := rfl
theorem ite_and {c : Prop} [Decidable c] {A B : Prop} : (if c then A else B) = ((c → A) ∧ (¬ c → B)) := by
  by_cases h : c
  · simp [h]
  · simp [h]
noncomputable def oV : Option Int → V
  | some i => .int i
  | none => .non
end
end L2
namespace L2
open PySem PySem.Spec PyProof.Rows
theorem cxOf_K {CX : CXT} {P : Program} {w : World} {K : PySem.W.Frag} {mg : Str → Option Value} {base : Heap} {N : List Str} {qual : Str} {scope : Scope} {f : Addr} {cd : Value} {A : Around} {outer : List Env} {s : Shared} {H : Hp} {E : XK} : (cxOf CX P w K mg base N qual scope f cd A outer s H E).K = K := rfl
theorem cxComp_K {X : Cx} {N : List Str} {scope : Scope} {cl : List (Str × Addr)} {s : Shared} {H : Hp} {fp : List Addr} : (cxComp X N scope cl s H fp).K = X.K := rfl
section
variable {D : Ends} {σ : St} {H : Hp} {Q : VK}
noncomputable def ForW (J : It) (g : TG) (tb : TS) (D : Ends) (σ : St) (H : Hp) : Prop := ∃ W : Nat → Nat → St → Hp → Prop, (∃ m, W 0 m σ H) ∧ ∀ i m σ H, W i m σ H →
  (J.stop i H ∧ D.nx σ H) ∨ (J.go i H ∧ ∃ N : St → Hp → Prop, (∀ σ' H', N σ' H' → ∃ m', m' < m ∧ W (i + 1) m' σ' H') ∧ ∀ x H', J.yld i H x H' → g x σ H' fun σ2 H2 => tb { D with nx := N, ct := N, bk := D.nx } σ2 H2)
theorem tFor_ap {wi : TI} {g : TG} {tb : TS} : tFor wi g tb D σ H = wi σ H fun J H1 => ForW J g tb D σ H1 := rfl
theorem forW_range {lo : Int} {n : Nat} {g : TG} {tb : TS} (Pv : Nat → St → Hp → Prop) (h0 : Pv 0 σ H)
    (hs : ∀ i σ H, i < n → Pv i σ H → g (.int (lo + i)) σ H fun σ2 H2 => tb { D with nx := Pv (i + 1), ct := Pv (i + 1), bk := D.nx } σ2 H2) (hd : ∀ σ H, Pv n σ H → D.nx σ H) : ForW (Itr lo n) g tb D σ H := for_range Pv h0 hs hd
theorem forW_list {K : PySem.W.Frag} {a : Addr} {xs : List V} {g : TG} {tb : TS} (Pv : Nat → St → Hp → Prop) (h0 : Pv 0 σ H) (hl : ∀ i σ H, i ≤ xs.length → Pv i σ H → SqL K H a xs)
    (hs : ∀ i x σ H, xs[i]? = some x → Pv i σ H → g x σ H fun σ2 H2 => tb { D with nx := Pv (i + 1), ct := Pv (i + 1), bk := D.nx } σ2 H2) (hd : ∀ σ H, Pv xs.length σ H → D.nx σ H) : ForW (Itl K a) g tb D σ H := for_list Pv h0 hl hs hd
theorem iRng1_ap {ta : TA} {R : It → Hp → Prop} : iRng1 ta σ H R = ta σ H fun vs H1 => ∃ j : Int, vs = [.int j] ∧ -(2 ^ 62) ≤ j ∧ j < 2 ^ 62 ∧ R (Itr 0 j.toNat) H1 := rfl
theorem iRng2_ap {ta : TA} {R : It → Hp → Prop} : iRng2 ta σ H R = ta σ H fun vs H1 => ∃ i j : Int, vs = [.int i, .int j] ∧ (-(2 ^ 62) ≤ i ∧ i < 2 ^ 62 ∧ -(2 ^ 62) ≤ j ∧ j < 2 ^ 62) ∧ R (Itr i (j - i).toNat) H1 := rfl
theorem iList_ap {K : PySem.W.Frag} {tl : TE} {R : It → Hp → Prop} : iList K tl σ H R = tl σ H fun x H1 => ∃ a, x = .ref a ∧ (∃ xs, SqL K H1 a xs) ∧ R (Itl K a) H1 := rfl
theorem iTup_ap {K : PySem.W.Frag} {tl : TE} {R : It → Hp → Prop} : iTup K tl σ H R = tl σ H fun x H1 => ∃ a, x = .ref a ∧ (∃ xs, SqT K H1 a xs) ∧ R (Itt K a) H1 := rfl
noncomputable def CompW (J : It) (g : TG) (tt : TT) (te : TE) (own : List Str) (fr : List Nat) (σ : St) (H1 : Hp) (Q : VK) : Prop := ∀ D, H1 D = none → ∃ W : Nat → Nat → St → Hp → Prop, (∃ m, W 0 m (st0 own fr σ) (upd H1 D (.lst []))) ∧ ∀ i m σc H, W i m σc H →
  (J.stop i H ∧ Q (.ref D) H) ∨ (J.go i H ∧ ∃ N : St → Hp → Prop, (∀ σ' H', N σ' H' → ∃ m', m' < m ∧ W (i + 1) m' σ' H') ∧ ∀ x H', J.yld i H x H' → g x σc H' fun σ2 H2 => tt σ2 H2 fun b H3 =>
    if b = true then te σ2 H3 fun y H4 => ∃ ys, H4 D = some (.lst ys) ∧ ys.length < sizeLine ∧ N σ2 (upd H4 D (.lst (ys ++ [y]))) else N σ2 H3)
theorem tComp_ap {wi : TI} {g : TG} {tt : TT} {te : TE} {own : List Str} {fr : List Nat} : tComp wi g tt te own fr σ H Q = wi σ H fun J H1 => CompW J g tt te own fr σ H1 Q := rfl
noncomputable def CompN (Sv : St → Prop) (Pv : Addr → Nat → List V → Hp → Prop) (D : Addr) (i : Nat) (σ : St) (H : Hp) : Prop := Sv σ ∧ ∃ ys, H D = some (.lst ys) ∧ ys.length ≤ i ∧ Pv D i ys H
noncomputable def CompP (Sv : St → Prop) (Pv : Addr → Nat → List V → Hp → Prop) (D : Addr) (i : Nat) (σ2 : St) (y : V) (H4 : Hp) : Prop := ∃ ys, H4 D = some (.lst ys) ∧ ys.length < sizeLine ∧ CompN Sv Pv D (i + 1) σ2 (upd H4 D (.lst (ys ++ [y])))
theorem CompP.mk {Sv : St → Prop} {Pv : Addr → Nat → List V → Hp → Prop} {D : Addr} {i : Nat} {σ2 : St} {y : V} {H4 : Hp} {ys : List V} (h : H4 D = some (.lst ys)) (hl : ys.length ≤ i) (hi : i < sizeLine) (hS : Sv σ2) (hP : Pv D (i + 1) (ys ++ [y]) (upd H4 D (.lst (ys ++ [y])))) :
    CompP Sv Pv D i σ2 y H4 := ⟨ys, h, Nat.lt_of_le_of_lt hl hi, hS, _, upd_same, by simp; (clear hi; omega), hP⟩
theorem compW_list {K : PySem.W.Frag} {a : Addr} {xs : List V} {g : TG} {tt : TT} {te : TE} {own : List Str} {fr : List Nat} (Sv : St → Prop) (Pv : Addr → Nat → List V → Hp → Prop) (hS : Sv (st0 own fr σ))
    (h0 : ∀ D, H D = none → Pv D 0 [] (upd H D (.lst []))) (hl : ∀ D i ys H', H' D = some (.lst ys) → Pv D i ys H' → SqL K H' a xs)
    (hs : ∀ D i x ys σ H', xs[i]? = some x → i < xs.length → Sv σ → H' D = some (.lst ys) → ys.length ≤ i → Pv D i ys H' → g x σ H' fun σ2 H2 => tt σ2 H2 fun b H3 => if b = true then te σ2 H3 fun y H4 => CompP Sv Pv D i σ2 y H4 else CompN Sv Pv D (i + 1) σ2 H3)
    (hd : ∀ D ys H', H' D = some (.lst ys) → Pv D xs.length ys H' → Q (.ref D) H') : CompW (Itl K a) g tt te own fr σ H Q := by
  intro D hD
  refine ⟨fun i m σ H => m = xs.length - i ∧ i ≤ xs.length ∧ CompN Sv Pv D i σ H, ⟨_, rfl, Nat.zero_le _, hS, [], upd_same, Nat.le_refl _, h0 D hD⟩, ?_⟩
  rintro i m σ1 H1 ⟨rfl, hi, hs1, ys, hy, hy2, p⟩
  have q := hl D i ys H1 hy p
  by_cases hlt : i < xs.length
  · refine .inr ⟨⟨xs, xs[i], q, by simp [hlt]⟩, CompN Sv Pv D (i + 1), fun σ' H' p' => ⟨xs.length - (i + 1), by (clear h0 hl hs hi hy2; omega), rfl, hlt, p'⟩, fun x H' y => ?_⟩
    obtain ⟨e, y⟩ := y
    subst e
    exact hs D i x ys σ1 _ (y xs q) hlt hs1 hy hy2 p
  · have e : i = xs.length := by (clear h0 hl hs hy2; omega)
    subst e
    exact .inl ⟨⟨xs, q, Nat.le_refl _⟩, hd D ys H1 hy p⟩
theorem compW_range {lo : Int} {n : Nat} {g : TG} {tt : TT} {te : TE} {own : List Str} {fr : List Nat} (Sv : St → Prop) (Pv : Addr → Nat → List V → Hp → Prop) (hS : Sv (st0 own fr σ))
    (h0 : ∀ D, H D = none → Pv D 0 [] (upd H D (.lst [])))
    (hs : ∀ D i ys σ H', i < n → Sv σ → H' D = some (.lst ys) → ys.length ≤ i → Pv D i ys H' → g (.int (lo + i)) σ H' fun σ2 H2 => tt σ2 H2 fun b H3 => if b = true then te σ2 H3 fun y H4 => CompP Sv Pv D i σ2 y H4 else CompN Sv Pv D (i + 1) σ2 H3)
    (hd : ∀ D ys H', H' D = some (.lst ys) → Pv D n ys H' → Q (.ref D) H') : CompW (Itr lo n) g tt te own fr σ H Q := by
  intro D hD
  refine ⟨fun i m σ H => m = n - i ∧ i ≤ n ∧ CompN Sv Pv D i σ H, ⟨_, rfl, Nat.zero_le _, hS, [], upd_same, Nat.le_refl _, h0 D hD⟩, ?_⟩
  rintro i m σ1 H1 ⟨rfl, hi, hs1, ys, hy, hy2, p⟩
  by_cases hlt : i < n
  · refine .inr ⟨hlt, CompN Sv Pv D (i + 1), fun σ' H' p' => ⟨n - (i + 1), by (clear h0 hs hi hy2; omega), rfl, hlt, p'⟩, fun x H' y => ?_⟩
    obtain ⟨e, y⟩ := y
    subst e y
    exact hs D i ys σ1 _ hlt hs1 hy hy2 p
  · have e : i = n := by (clear h0 hs hy2; omega)
    subst e
    exact .inl ⟨Nat.le_refl _, hd D ys H1 hy p⟩
noncomputable abbrev IL (zs : List Int) : HO := .lst (zs.map V.int)
theorem rIxL_mk {K : PySem.W.Frag} {p : Addr} {xs : List V} {i : Int} {v : V} (h : SqL K H p xs) (e : atI xs i = some v) (q : Q v H) : rIxL K (.ref p) (.int i) H Q := ⟨p, xs, i, v, rfl, rfl, h, e, q⟩
theorem atI_getD {zs : List Int} {i : Int} (h0 : 0 ≤ i) (h1 : i < zs.length) : atI (zs.map V.int) i = some (.int (zs.getD i.toNat 0)) := by
  have hk : i.toNat < zs.length := by omega
  have ek : i = ((i.toNat : Nat) : Int) := by (clear h1 hk; omega)
  have q : atI (zs.map V.int) ((i.toNat : Nat) : Int) = some (.int (zs.getD i.toNat 0)) := atI_nat (by rw [List.getElem?_map, List.getElem?_eq_getElem hk, List.getD_eq_getElem?_getD, List.getElem?_eq_getElem hk]; rfl)
  rw [← ek] at q
  exact q
theorem ixN_in {n : Nat} {i : Int} (h0 : 0 ≤ i) (h1 : i < n) : ixN n i = some i.toNat := by unfold ixN; rw [if_pos h0, if_pos h1]
theorem Same.write {H H' : Hp} (g : Same H H') {p : Addr} (n : H p = none) (o : HO) : Same H (upd H' p o) := fun b u e => by rw [upd_ne (ne_of_none e n)]; exact g b u e
theorem gCons_ap {t : TG} {u : TGs} {v : V} {r : List V} {R : St → Hp → Prop} : gCons t u (v :: r) σ H R = t v σ H fun σ' H' => u r σ' H' R := propext ⟨fun ⟨a, b, e, q⟩ => by cases e; exact q, fun q => ⟨v, r, rfl, q⟩⟩
theorem gNil_ap {R : St → Hp → Prop} : gNil [] σ H R = R σ H := propext ⟨fun ⟨_, q⟩ => q, fun q => ⟨rfl, q⟩⟩
theorem tB_ap {t : TE} {R : Bool → Hp → Prop} : tB t σ H R = t σ H fun x H1 => ∃ c, x = .bl c ∧ R c H1 := rfl
theorem same_new {H : Hp} {p : Addr} (h : H p = none) (o : HO) : Same H (upd H p o) := fun b u q => by rw [upd_ne (ne_of_none q h)]; exact q
theorem map_set {zs : List Int} {j : Nat} {v : Int} : (zs.map V.int).set j (.int v) = (zs.set j v).map V.int := by rw [List.map_set]
end
end L2
namespace L2
open PySem PySem.Spec PyProof.Rows
noncomputable def Itv (K : PySem.W.Frag) (a : Addr) (n : Nat) : It :=
  ⟨fun i H => i < n ∧ ∃ xs, SqL K H a xs ∧ xs.length = n, fun i H x H' => H' = H ∧ ∀ xs, SqL K H a xs → xs[n - 1 - i]? = some x, fun i _ => i = n⟩
noncomputable def iRev (K : PySem.W.Frag) (ta : TE) : TI := fun σ H R => ta σ H fun x H1 => ∃ a xs, x = .ref a ∧ SqL K H1 a xs ∧ R (Itv K a xs.length) H1
section
variable {X : Cx} {tg : Expr}
end
theorem iRev_ap {K : PySem.W.Frag} {tl : TE} {σ : St} {H : Hp} {R : It → Hp → Prop} : iRev K tl σ H R = tl σ H fun x H1 => ∃ a xs, x = .ref a ∧ SqL K H1 a xs ∧ R (Itv K a xs.length) H1 := rfl
end L2
namespace L2
open PySem PySem.Spec PyProof.Rows
noncomputable def tCut (t : TS) : TS := fun D σ H => ∃ M : St → Hp → Prop, t { D with nx := M } σ H ∧ ∀ σ' H', M σ' H' → D.nx σ' H'
theorem ps_cut {X : Cx} {st : Stmt} {t : TS} (h : PS X st t) : PS X st (tCut t) := by
  intro pins s σ H D I hw
  refine L2.put_away fun G'1093x2 h'1093x2 => ?_
  obtain ⟨M, h1, h2⟩ := hw
  refine h'1093x2 ?_
  refine thn (h pins s σ H _ I h1) fun f s1 q => ?_
  cases f with
  | next => obtain ⟨σ', H', I', q⟩ := q; exact ⟨σ', H', I', h2 σ' H' q⟩
  | ret v => exact q
  | brk => exact q
  | cont => exact q
section
variable {X : Cx}
end
theorem isI_ii {K : PySem.W.Frag} {H : Hp} {Q : VK} {d : Int} : rIsI K [.int d, .ty "int"] H Q = Q (.bl true) H := propext ⟨fun ⟨x, T, t, b, e, ty, k, q⟩ => by
    cases e
    cases ty
    have : PySem.W.kitOne K (.type "int") (.type "int") = some true := rfl
    rw [this] at k
    cases k
    exact q, fun q => ⟨_, _, _, true, rfl, .int d, rfl, q⟩⟩
theorem isI_ib {K : PySem.W.Frag} {H : Hp} {Q : VK} {d : Int} : rIsI K [.int d, .ty "bool"] H Q = Q (.bl false) H := propext ⟨fun ⟨x, T, t, b, e, ty, k, q⟩ => by
    cases e
    cases ty
    have : PySem.W.kitOne K (.type "int") (.type "bool") = some false := rfl
    rw [this] at k
    cases k
    exact q, fun q => ⟨_, _, _, false, rfl, .int d, rfl, q⟩⟩
theorem isI_ni {K : PySem.W.Frag} {H : Hp} {Q : VK} : rIsI K [.non, .ty "int"] H Q = Q (.bl false) H := propext ⟨fun ⟨x, T, t, b, e, ty, k, q⟩ => by
    cases e
    cases ty
    have : PySem.W.kitOne K (.type "NoneType") (.type "int") = some false := rfl
    rw [this] at k
    cases k
    exact q, fun q => ⟨_, _, _, false, rfl, .non, rfl, q⟩⟩
theorem isI_bb {K : PySem.W.Frag} {H : Hp} {Q : VK} {d : Bool} : rIsI K [.bl d, .ty "bool"] H Q = Q (.bl true) H := propext ⟨fun ⟨x, T, t, b, e, ty, k, q⟩ => by
    cases e
    cases ty
    have : PySem.W.kitOne K (.type "bool") (.type "bool") = some true := rfl
    rw [this] at k
    cases k
    exact q, fun q => ⟨_, _, _, true, rfl, .bl d, rfl, q⟩⟩
end L2
namespace L2
open PySem PySem.Spec PyProof.Rows
section
variable {prog : Program} {w : World} {A : Around} {E : Value → Shared → Prop} {s : Shared}
end
noncomputable def tListRev (K : PySem.W.Frag) (tl : TE) : TE := fun σ H Q => tl σ H fun x H1 => ∃ a xs, x = .ref a ∧ SqL K H1 a xs ∧ ∀ d, H1 d = none → Q (.ref d) (upd H1 d (.lst xs.reverse))
section
variable {X : Cx}
end
theorem tListRev_ap {K : PySem.W.Frag} {tl : TE} {σ : St} {H : Hp} {Q : VK} : tListRev K tl σ H Q = tl σ H fun x H1 => ∃ a xs, x = .ref a ∧ SqL K H1 a xs ∧ ∀ d, H1 d = none → Q (.ref d) (upd H1 d (.lst xs.reverse)) := rfl
end L2
namespace L2
open PySem PySem.Spec PyProof.Rows
mutual
inductive DD (K : PySem.W.Frag) (H : Hp) : V → PyData → Prop where
  | non : DD K H .non .none
  | bl (b : Bool) : DD K H (.bl b) (.bool b)
  | int (i : Int) : DD K H (.int i) (.int i)
  | str (x : Str) : DD K H (.str x) (.str x)
  | lst {a : Addr} {xs : List V} {ds : List PyData} : SqL K H a xs → DDs K H xs ds → DD K H (.ref a) (.list ds)
  | tup {a : Addr} {xs : List V} {ds : List PyData} : SqT K H a xs → DDs K H xs ds → DD K H (.ref a) (.tuple ds)
inductive DDs (K : PySem.W.Frag) (H : Hp) : List V → List PyData → Prop where
  | nil : DDs K H [] []
  | cons {x : V} {xs : List V} {d : PyData} {ds : List PyData} : DD K H x d → DDs K H xs ds → DDs K H (x :: xs) (d :: ds)
end
section
variable {X : Cx} {pins : List (Addr × Obj)} {σ : St} {H : Hp} {s : Shared}
mutual
theorem DD.reads (I : Inv X pins σ H s) : ∀ {v : V} {d : PyData} {u : Value}, DD X.K H v d → RelV v u → ∃ as, Reads s.heap u d as
  | _, _, _, .non, r => by cases r; exact ⟨_, .none⟩
  | _, _, _, .bl b, r => by cases r; exact ⟨_, .bool b⟩
  | _, _, _, .int i, r => by obtain ⟨t, rfl⟩ := r; exact ⟨_, .int i t⟩
  | _, _, _, .str x, r => by obtain ⟨t, rfl⟩ := r; exact ⟨_, .str x t⟩
  | _, _, _, .lst h hs, r => by
    cases r
    refine L2.put_away fun G'1140x8 h'1140x8 => ?_
    obtain ⟨its, rv, p, _⟩ := I.list h
    refine h'1140x8 ?_
    obtain ⟨as, ra⟩ := DDs.reads I hs rv
    refine L2.put_away fun G'1140x10 h'1140x10 => ?_
    obtain ⟨o, ho, hc, n, hd⟩ := p.isList
    refine h'1140x10 ?_
    exact ⟨_, .list ho hc hd ra⟩
  | _, _, _, .tup h hs, r => by
    cases r
    refine L2.put_away fun G'1140x14 h'1140x14 => ?_
    obtain ⟨its, rv, p, _⟩ := I.tuple h
    refine h'1140x14 ?_
    obtain ⟨as, ra⟩ := DDs.reads I hs rv
    refine L2.put_away fun G'1140x16 h'1140x16 => ?_
    obtain ⟨o, ho, hc, n, hd⟩ := p
    refine h'1140x16 ?_
    exact ⟨_, .tuple ho hc hd ra⟩
theorem DDs.reads (I : Inv X pins σ H s) : ∀ {vs : List V} {ds : List PyData} {us : List Value}, DDs X.K H vs ds → Vals vs us → ∃ as, ReadsAll s.heap us ds as
  | _, _, _, .nil, .nil => ⟨_, .nil⟩
  | _, _, _, .cons h hs, .cons r rs => by
    obtain ⟨as, ra⟩ := DD.reads I h r
    obtain ⟨bs, rb⟩ := DDs.reads I hs rs
    exact ⟨_, .cons ra rb⟩
end
end
theorem Same.seqT {K : PySem.W.Frag} {H H' : Hp} {a : Addr} {xs : List V} (e : Same H H') (h : SqT K H a xs) : SqT K H' a xs := by
  rcases h with (h | ⟨o, h⟩) | h
  · exact .inl (.inl (e _ _ h))
  · exact .inl (.inr ⟨o, e _ _ h⟩)
  · exact .inr h
mutual
theorem DD.mono {K : PySem.W.Frag} {H H' : Hp} (g : Same H H') : ∀ {v : V} {d : PyData}, DD K H v d → DD K H' v d
  | _, _, .non => .non
  | _, _, .bl b => .bl b
  | _, _, .int i => .int i
  | _, _, .str x => .str x
  | _, _, .lst h hs => .lst (g.seq h) (DDs.mono g hs)
  | _, _, .tup h hs => .tup (Same.seqT g h) (DDs.mono g hs)
theorem DDs.mono {K : PySem.W.Frag} {H H' : Hp} (g : Same H H') : ∀ {vs : List V} {ds : List PyData}, DDs K H vs ds → DDs K H' vs ds
  | _, _, .nil => .nil
  | _, _, .cons h hs => .cons (DD.mono g h) (DDs.mono g hs)
end
noncomputable def rEqD (K : PySem.W.Frag) : R2 := fun x y H Q => ∃ d e : PyData, DD K H x d ∧ DD K H y e ∧ SeqAt.shaped d = true ∧ SeqAt.shaped e = true ∧ Q (.bl (PyData.eqv d e)) H
noncomputable def rNeD (K : PySem.W.Frag) : R2 := fun x y H Q => ∃ d e : PyData, DD K H x d ∧ DD K H y e ∧ SeqAt.shaped d = true ∧ SeqAt.shaped e = true ∧ Q (.bl (!PyData.eqv d e)) H
section
variable {X : Cx}
theorem op_eqD (hu : X.A.units + 64 < cLine) : OpR X (compareOp .Eq) (rEqD X.K) := by
  intro pins s σ H x y v u Q I rx ry h
  refine L2.put_away fun G'1148x2 h'1148x2 => ?_
  obtain ⟨d, e, hd, he, sd, se, q⟩ := h
  refine h'1148x2 ?_
  obtain ⟨as, ra⟩ := hd.reads I rx
  obtain ⟨bs, rb⟩ := he.reads I ry
  exact eq_dataH ra rb sd se hu ⟨.bl _, H, I, rfl, q⟩
theorem op_neD (hu : X.A.units + 64 < cLine) : OpR X (compareOp .NotEq) (rNeD X.K) := by
  intro pins s σ H x y v u Q I rx ry h
  refine L2.put_away fun G'1149x2 h'1149x2 => ?_
  obtain ⟨d, e, hd, he, sd, se, q⟩ := h
  refine h'1149x2 ?_
  obtain ⟨as, ra⟩ := hd.reads I rx
  obtain ⟨bs, rb⟩ := he.reads I ry
  exact ne_dataH ra rb sd se hu ⟨.bl _, H, I, rfl, q⟩
end
end L2
namespace L2
open PySem PySem.Spec PyProof.Rows
section
variable {prog : Program} {w : World} {B : Around} {it : Addr} {fp wr : List Addr} {GG : Array GenState → Array GenState → Prop} {n : Nat} {PV : Nat → Value → Prop} {SV : Nat → Shared → Prop} {RR : Result → Shared → Prop}
end
noncomputable def tMinD (K : PySem.W.Frag) (tl td : TE) : TE := fun σ H Q => tl σ H fun x H1 => td σ H1 fun d H2 => ∃ (a : Addr) (ns : List Int), x = .ref a ∧ SqL K H2 a (ns.map V.int) ∧ (ns = [] → Q d H2) ∧ ∀ M, M ∈ ns → (∀ z ∈ ns, M ≤ z) → Q (.int M) H2
section
variable {X : Cx}
end
theorem tMinD_ap {K : PySem.W.Frag} {tl td : TE} {σ : St} {H : Hp} {Q : VK} : tMinD K tl td σ H Q = tl σ H fun x H1 => td σ H1 fun d H2 => ∃ (a : Addr) (ns : List Int), x = .ref a ∧ SqL K H2 a (ns.map V.int) ∧ (ns = [] → Q d H2) ∧ ∀ M, M ∈ ns → (∀ z ∈ ns, M ≤ z) → Q (.int M) H2 := rfl

section
variable {prog : Program} {w : World} {B : Around} {it : Addr} {fp wr : List Addr} {GG : Array GenState → Array GenState → Prop} {n : Nat} {PV : Nat → Value → Prop} {SV : Nat → Shared → Prop} {RR : Result → Shared → Prop}
end
noncomputable def tMaxD (K : PySem.W.Frag) (tl td : TE) : TE := fun σ H Q => tl σ H fun x H1 => td σ H1 fun d H2 => ∃ (a : Addr) (ns : List Int), x = .ref a ∧ SqL K H2 a (ns.map V.int) ∧ (ns = [] → Q d H2) ∧ ∀ M, M ∈ ns → (∀ z ∈ ns, z ≤ M) → Q (.int M) H2
section
variable {X : Cx}
end
theorem tMaxD_ap {K : PySem.W.Frag} {tl td : TE} {σ : St} {H : Hp} {Q : VK} : tMaxD K tl td σ H Q = tl σ H fun x H1 => td σ H1 fun d H2 => ∃ (a : Addr) (ns : List Int), x = .ref a ∧ SqL K H2 a (ns.map V.int) ∧ (ns = [] → Q d H2) ∧ ∀ M, M ∈ ns → (∀ z ∈ ns, z ≤ M) → Q (.int M) H2 := rfl
end L2
namespace L2
open PySem PySem.Spec PyProof.Rows
noncomputable def CapOk (X : Cx) (scope : Scope) : List Str → List Nat → List (Str × Addr) → Prop
  | [], [], [] => True
  | y :: ys, j :: js, (n, a) :: r => n = y ∧ X.N[j]? = some y ∧ X.env.scope.names.lookup y = some .cell ∧ X.env.cells.lookup y = some a ∧ scope.names.lookup y = some .free ∧ CapOk X scope ys js r
  | _, _, _ => False
theorem CapOk.inn {X : Cx} {scope : Scope} : ∀ {ys : List Str} {js : List Nat} {cl : List (Str × Addr)}, CapOk X scope ys js cl → ∀ y c, cl.lookup y = some c → X.env.cells.lookup y = some c
  | [], [], [], _, y, c, e => nomatch e
  | y :: ys, j :: js, (n, a) :: r, ⟨hn, _, _, h, _, t⟩, z, c, e => by
    subst hn
    rw [List.lookup_cons] at e
    cases q : z == n with
    | true =>
      rw [q] at e
      have : z = n := by simpa using q
      subst this
      exact h.trans e
    | false =>
      rw [q] at e
      exact CapOk.inn t z c e
theorem CapOk.mem {X : Cx} {scope : Scope} : ∀ {ys : List Str} {js : List Nat} {cl : List (Str × Addr)}, CapOk X scope ys js cl → ∀ y ∈ ys, ∃ c, cl.lookup y = some c
  | [], [], [], _, y, h => nomatch h
  | y :: ys, j :: js, (n, a) :: r, ⟨hn, _, _, _, _, t⟩, z, e => by
    subst hn
    rw [List.lookup_cons]
    cases q : z == n with
    | true => exact ⟨_, rfl⟩
    | false =>
      rcases List.mem_cons.mp e with e | e
      · subst e; simp at q
      · exact CapOk.mem t z e
theorem CapOk.len {X : Cx} {scope : Scope} : ∀ {ys : List Str} {js : List Nat} {cl : List (Str × Addr)}, CapOk X scope ys js cl → ys.length = js.length
  | [], [], [], _ => rfl
  | _ :: _, _ :: _, (_, _) :: _, ⟨_, _, _, _, _, t⟩ => congrArg (· + 1) (CapOk.len t)
theorem CapOk.at {X : Cx} {scope : Scope} : ∀ {ys : List Str} {js : List Nat} {cl : List (Str × Addr)}, CapOk X scope ys js cl → ∀ (k : Nat) (y : Str), ys[k]? = some y →
    ∃ j, js[k]? = some j ∧ X.N[j]? = some y ∧ X.env.scope.names.lookup y = some .cell ∧ scope.names.lookup y = some .free
  | [], [], [], _, k, y, e => by simp at e
  | y :: ys, j :: js, (n, a) :: r, ⟨hn, h1, h2, _, h3, t⟩, k, z, e => by
    subst hn
    cases k with
    | zero => cases e; exact ⟨j, rfl, h1, h2, h3⟩
    | succ k => exact CapOk.at t k z e
theorem lookup_mem {α : Type} : ∀ {l : List (Str × α)} {y : Str} {k : α}, l.lookup y = some k → (y, k) ∈ l
  | [], _, _, e => nomatch e
  | (n, q) :: r, y, k, e => by
    rw [List.lookup_cons] at e
    cases hy : y == n with
    | true =>
      rw [hy] at e
      have : y = n := by simpa using hy
      subst this
      cases e
      exact .head _
    | false =>
      rw [hy] at e
      exact .tail _ (lookup_mem e)
theorem relabel_free {env : Env} : ∀ {names : List (Str × NameKind)} {x : Str}, names.lookup x = some .free →
    (names.map fun (n, k) => if (k == NameKind.free && env.scope.kind == .function && env.kindOf n == some .cell) then (n, NameKind.cell) else (n, k)).lookup x = some .cell ∨
    (names.map fun (n, k) => if (k == NameKind.free && env.scope.kind == .function && env.kindOf n == some .cell) then (n, NameKind.cell) else (n, k)).lookup x = some .free
  | [], _, h => nomatch h
  | (n, k) :: r, x, h => by
    rw [List.lookup_cons] at h
    rw [List.map_cons]
    cases hy : x == n with
    | true =>
      rw [hy] at h
      cases h
      dsimp only
      split
      · left; rw [List.lookup_cons, hy]
      · right; rw [List.lookup_cons, hy]
    | false =>
      rw [hy] at h
      have ih := relabel_free (env := env) h
      dsimp only
      split
      · rw [List.lookup_cons, hy]; exact ih
      · rw [List.lookup_cons, hy]; exact ih
theorem CompSc.capt {X : Cx} {own capt : List Str} {scope : Scope} {cl : List (Str × Addr)} {fr : List Nat} (clo : closureFor scope X.env = pure cl) (ok : CapOk X scope capt fr cl) (h1 : ∀ z ∈ scope.names, z.2 = .free → z.1 ∈ capt)
    (h2 : ∀ y ∈ scope.names, y.2 ≠ .cell) (kind : scope.kind = .function) (names : ∀ y ∈ scope.names, y.2 = .local → scope.names.lookup y.1 = some .local) : CompSc X own capt scope cl fr where
  clos := clo
  nocell := h2
  kind := kind
  names := names
  inn := ok.inn
  has := fun y e => by
    refine ok.mem y ?_
    have key : ∃ k, (y, k) ∈ (relabel scope X.env).names ∧ (k = .cell ∨ k = .free) := by
      rcases e with e | e
      · exact ⟨_, lookup_mem e, .inl rfl⟩
      · exact ⟨_, lookup_mem e, .inr rfl⟩
    refine L2.put_away fun G'1198x13 h'1198x13 => ?_
    obtain ⟨k, hm, hk⟩ := key
    refine h'1198x13 ?_
    unfold relabel at hm
    refine L2.put_away fun G'1198x15 h'1198x15 => ?_
    obtain ⟨⟨n, k0⟩, h3, h4⟩ := List.mem_map.mp hm
    refine h'1198x15 ?_
    have h5 : n = y ∧ k0 = .free := by
      dsimp only at h4
      split at h4
      · rename_i c
        cases h4
        simp only [Bool.and_eq_true, beq_iff_eq] at c
        exact ⟨rfl, c.1.1⟩
      · cases h4
        rcases hk with rfl | rfl
        · exact absurd rfl (h2 _ h3)
        · exact ⟨rfl, rfl⟩
    obtain ⟨rfl, rfl⟩ := h5
    exact h1 _ h3 rfl
  cap := fun k y e => by
    refine L2.put_away fun G'1198x30 h'1198x30 => ?_
    obtain ⟨j, e1, e2, e3, e4⟩ := ok.at k y e
    refine h'1198x30 ?_
    obtain ⟨c, hc⟩ := ok.mem y (List.mem_of_getElem? e)
    exact ⟨j, c, e1, e2, e3, hc, relabel_free e4⟩
  len := ok.len
end L2
namespace SM
noncomputable def gcdI (a b : Int) : Int := (Int.gcd a b : Int)
theorem gcdI_zero {a : Int} (h : 0 ≤ a) : gcdI a 0 = a := by
  unfold gcdI; rw [Int.gcd_zero_right]; omega
theorem gcdI_comm (a b : Int) : gcdI a b = gcdI b a := by unfold gcdI; rw [Int.gcd_comm]
theorem gcdI_step (a b : Int) : gcdI b (a % b) = gcdI a b := by
  unfold gcdI
  have e : a = b * (a / b) + a % b := (Int.mul_ediv_add_emod a b).symm
  have : Int.gcd a b = Int.gcd (a % b) b := by
    conv => lhs; rw [e]
    rw [Int.gcd_mul_left_add_left]
  rw [this, Int.gcd_comm]
theorem gcdI_dvd_left (a b : Int) : gcdI a b ∣ a := Int.gcd_dvd_left ..
theorem gcdI_dvd_right (a b : Int) : gcdI a b ∣ b := Int.gcd_dvd_right ..
theorem dvd_gcdI {k a b : Int} (h1 : k ∣ a) (h2 : k ∣ b) : k ∣ gcdI a b := Int.dvd_coe_gcd h1 h2
theorem gcdI_pos {a b : Int} (h : a ≠ 0 ∨ b ≠ 0) : 0 < gcdI a b := by
  unfold gcdI
  rcases h with h | h
  · have := Int.gcd_pos_of_ne_zero_left b h; (clear h; omega)
  · have := Int.gcd_pos_of_ne_zero_right a h; (clear h; omega)
theorem gcdI_le_left {a : Int} (b : Int) (h : 0 < a) : gcdI a b ≤ a := Int.gcd_le_left b h
noncomputable def lcmI (a b : Int) : Int := a * (b / gcdI a b)
theorem lcmI_eq {a b : Int} (ha : 1 ≤ a) (hb : 1 ≤ b) : lcmI a b = (Int.lcm a b : Int) := by
  have g := gcdI_pos (a := a) (b := b) (by (clear hb; omega))
  have d := gcdI_dvd_right a b
  have e : gcdI a b * (Int.lcm a b : Int) = a * b := by
    have := Int.gcd_mul_lcm a b
    have h2 : ((Int.gcd a b * Int.lcm a b : Nat) : Int) = ((a.natAbs * b.natAbs : Nat) : Int) := by rw [this]
    rw [Int.natCast_mul, Int.natCast_mul] at h2
    have h3 : ((a.natAbs : Nat) : Int) = a := by (clear hb g d this h2; omega)
    have h4 : ((b.natAbs : Nat) : Int) = b := by (clear ha g d this h2 h3; omega)
    rw [h3, h4] at h2
    exact h2
  unfold lcmI
  obtain ⟨k, hk⟩ := d
  have : b / gcdI a b = k := by
    conv => lhs; lhs; rw [hk]
    exact Int.mul_ediv_cancel_left k (by (clear ha hb e hk; omega))
  rw [this]
  have e2 : gcdI a b * (a * k) = gcdI a b * (Int.lcm a b : Int) := by
    rw [e]; conv => rhs; rw [hk]
    rw [← Int.mul_assoc, ← Int.mul_assoc, Int.mul_comm (gcdI a b) a]
  exact Int.eq_of_mul_eq_mul_left (by (clear ha hb e hk this e2; omega)) e2
theorem lcmI_alt {a b : Int} : (a * b) / gcdI a b = lcmI a b := by
  unfold lcmI
  exact Int.mul_ediv_assoc a (gcdI_dvd_right a b)
theorem lcmI_pos {a b : Int} (ha : 1 ≤ a) (hb : 1 ≤ b) : 1 ≤ lcmI a b := by
  rw [lcmI_eq ha hb]
  have := Int.lcm_pos (m := a) (n := b) (by (clear hb; omega)) (by (clear ha; omega))
  (clear ha hb; omega)
theorem lcmI_le {a b : Int} (ha : 1 ≤ a) (hb : 1 ≤ b) : lcmI a b ≤ a * b := by
  unfold lcmI
  have g := gcdI_pos (a := a) (b := b) (by (clear hb; omega))
  have : b / gcdI a b ≤ b := Int.ediv_le_self _ (by (clear ha g; omega))
  exact Int.mul_le_mul_of_nonneg_left this (by (clear hb g this; omega))
noncomputable def lcms (xs : List Int) : Int := xs.foldl lcmI 1
theorem foldl_lcm_pos : ∀ (xs : List Int) (a : Int), 1 ≤ a → (∀ x ∈ xs, 1 ≤ x) → 1 ≤ xs.foldl lcmI a
  | [], _, h, _ => h
  | x :: r, a, h, hx => foldl_lcm_pos r (lcmI a x) (lcmI_pos h (hx x (by simp))) fun y hy => hx y (by simp [hy])
theorem lcms_pos {xs : List Int} (hx : ∀ x ∈ xs, 1 ≤ x) : 1 ≤ lcms xs := foldl_lcm_pos xs 1 (by (clear hx; omega)) hx
theorem pos_dvd_antisymm {a b : Int} (ha : 1 ≤ a) (hb : 1 ≤ b) (h1 : a ∣ b) (h2 : b ∣ a) : a = b := by
  have := Int.le_of_dvd (by (clear ha h1 h2; omega)) h1
  have := Int.le_of_dvd (by (clear hb h1 h2 this; omega)) h2
  (clear ha hb h1 h2; omega)
theorem lcms_snoc (xs : List Int) (x : Int) : lcms (xs ++ [x]) = lcmI (lcms xs) x := by unfold lcms; rw [List.foldl_append]; rfl
theorem foldl_lcm_le {B : Int} (hB : 1 ≤ B) : ∀ (xs : List Int) (a : Int), 1 ≤ a → (∀ x ∈ xs, 1 ≤ x ∧ x ≤ B) → xs.foldl lcmI a ≤ a * B ^ xs.length
  | [], a, h, _ => by simp
  | x :: r, a, h, hx => by
    have x1 := hx x (by simp)
    have ih := foldl_lcm_le hB r (lcmI a x) (lcmI_pos h x1.1) fun y hy => hx y (by simp [hy])
    have l := lcmI_le h x1.1
    have p : (0:Int) ≤ B ^ r.length := Int.pow_nonneg (by (clear h hx x1 ih l; omega))
    rw [List.foldl_cons, List.length_cons]
    refine Int.le_trans ih ?_
    have m1 : lcmI a x ≤ a * B := Int.le_trans l (Int.mul_le_mul_of_nonneg_left x1.2 (by (clear hB hx x1 ih l p; omega)))
    have m2 := Int.mul_le_mul_of_nonneg_right m1 p
    rw [Int.pow_succ, Int.mul_comm (B ^ r.length) B, ← Int.mul_assoc]
    exact m2
theorem lcms_le {B : Int} (hB : 1 ≤ B) {xs : List Int} (hx : ∀ x ∈ xs, 1 ≤ x ∧ x ≤ B) : lcms xs ≤ B ^ xs.length := by
  have := foldl_lcm_le hB xs 1 (by (clear hB hx; omega)) hx
  rw [Int.one_mul] at this
  exact this
end SM
namespace SM

noncomputable def cdiv (n b : Int) : Int := -((-n) / b)
end SM
namespace SM
end SM
namespace SM
noncomputable def NoPart (n k : Int) : Prop := ∀ d, 2 ≤ d → d < k → ¬ d ∣ n
structure IsPart (n d : Int) : Prop where
  two : 2 ≤ d
  dvd : d ∣ n
  least : NoPart n d
end SM
namespace SM
end SM
namespace SM
end SM
namespace SM
noncomputable abbrev T3 := Int × Int × Int
inductive Down (n w0 a0 lo0 : Int) : List T3 → Int → Int → Int → Prop
  | top : Down n w0 a0 lo0 [] w0 a0 lo0
  | go {lv : List T3} {w a lo : Int} : Down n w0 a0 lo0 lv w a lo → 0 < a → ¬ a * cdiv lo a ≤ lo + n - 1 → Down n w0 a0 lo0 (lv ++ [(w, a, lo)]) a (w % a) ((-(lo + n - 1)) % a)
end SM
namespace L2
open PySem PySem.Spec PyProof.Rows SM
noncomputable def tupW (t : T3) : HO := .tup [.int t.1, .int t.2.1, .int t.2.2]
noncomputable def Pl (H : Hp) (xs : List V) (ws : List T3) : Prop := xs.length = ws.length ∧ ∀ (i : Nat) t, ws[i]? = some t → ∃ p, xs[i]? = some (.ref p) ∧ H p = some (tupW t)
theorem Pl.nil {H : Hp} : Pl H [] [] := ⟨rfl, fun i t e => by simp at e⟩
theorem Pl.same {H H' : Hp} {xs : List V} {ws : List T3} (g : Same H H') (h : Pl H xs ws) : Pl H' xs ws := ⟨h.1, fun i t e => let ⟨p, e1, e2⟩ := h.2 i t e; ⟨p, e1, g _ _ e2⟩⟩
theorem Pl.upd {H : Hp} {xs ys : List V} {ws : List T3} {L : Addr} {o : HO} (h : Pl H xs ws) (hL : H L = some (.lst ys)) : Pl (upd H L o) xs ws := ⟨h.1, fun i t e => by
  refine L2.put_away fun G'1326x1 h'1326x1 => ?_
  obtain ⟨p, e1, e2⟩ := h.2 i t e
  refine h'1326x1 ?_
  exact ⟨p, e1, by rw [upd_ne (ne_of e2 hL (by intro z; cases z))]; exact e2⟩⟩
theorem Pl.snoc {H : Hp} {xs : List V} {ws : List T3} {p : Addr} {t : T3} (h : Pl H xs ws) (hp : H p = some (tupW t)) : Pl H (xs ++ [.ref p]) (ws ++ [t]) := by
  refine ⟨by simp [h.1], fun i u e => ?_⟩
  by_cases c : i < ws.length
  · rw [List.getElem?_append_left c] at e
    refine L2.put_away fun G'1328x4 h'1328x4 => ?_
    obtain ⟨b, e1, e2⟩ := h.2 i u e
    refine h'1328x4 ?_
    exact ⟨b, by rw [List.getElem?_append_left (by rw [h.1]; exact c)]; exact e1, e2⟩
  · rw [List.getElem?_append_right (by (clear e; omega))] at e
    have z : i - ws.length = 0 := by
      rcases Nat.eq_zero_or_pos (i - ws.length) with z | z
      · exact z
      · rw [List.getElem?_eq_none (by simp; (clear e c; omega))] at e; cases e
    rw [z] at e
    cases e
    exact ⟨p, by rw [List.getElem?_append_right (by rw [h.1]; (clear z; omega)), h.1, z]; rfl, hp⟩
theorem Pl.at {H : Hp} {xs : List V} {ws : List T3} (h : Pl H xs ws) {i : Nat} {x : V} (e : xs[i]? = some x) : ∃ p t, ws[i]? = some t ∧ x = .ref p ∧ H p = some (tupW t) := by
  have hi : i < ws.length := by
    rw [← h.1]
    exact (List.getElem?_eq_some_iff.mp e).1
  refine L2.put_away fun G'1329x4 h'1329x4 => ?_
  obtain ⟨p, e1, e2⟩ := h.2 i ws[i] (List.getElem?_eq_getElem hi)
  refine h'1329x4 ?_
  rw [e] at e1
  cases e1
  exact ⟨p, ws[i], List.getElem?_eq_getElem hi, rfl, e2⟩
theorem Pl.take {H : Hp} {xs : List V} {ws : List T3} (h : Pl H xs ws) (n : Nat) : Pl H (xs.take n) (ws.take n) := by
  refine ⟨by simp [h.1], fun i t e => ?_⟩
  rw [List.getElem?_take] at e ⊢
  split at e
  · rename_i c
    rw [if_pos c]
    exact h.2 i t e
  · cases e
theorem Pl.drop {H : Hp} {xs : List V} {ws : List T3} (h : Pl H xs ws) (n : Nat) : Pl H (xs.drop n) (ws.drop n) := by
  refine ⟨by simp [h.1], fun i t e => ?_⟩
  rw [List.getElem?_drop] at e ⊢
  exact h.2 _ t e
theorem Pl.append {H : Hp} {xs ys : List V} {ws vs : List T3} (h : Pl H xs ws) (k : Pl H ys vs) : Pl H (xs ++ ys) (ws ++ vs) := by
  refine ⟨by simp [h.1, k.1], fun i t e => ?_⟩
  by_cases c : i < ws.length
  · rw [List.getElem?_append_left c] at e
    rw [List.getElem?_append_left (by rw [h.1]; exact c)]
    exact h.2 i t e
  · rw [List.getElem?_append_right (by (clear e; omega))] at e
    rw [List.getElem?_append_right (by rw [h.1]; (clear e; omega)), h.1]
    exact k.2 _ t e
theorem Pl.one {H : Hp} {p : Addr} {t : T3} (hp : H p = some (tupW t)) : Pl H [.ref p] [t] := (Pl.nil (H := H)).snoc hp
theorem Pl.ix {H : Hp} {xs : List V} {ws : List T3} (h : Pl H xs ws) {i : Int} (h0 : 0 ≤ i) (h1 : i < ws.length) : ∃ p t, atI xs i = some (.ref p) ∧ ws[i.toNat]? = some t ∧ t ∈ ws ∧ H p = some (tupW t) := by
  have hk : i.toNat < ws.length := by omega
  refine L2.put_away fun G'1335x2 h'1335x2 => ?_
  obtain ⟨p, e1, e2⟩ := h.2 i.toNat ws[i.toNat] (List.getElem?_eq_getElem hk)
  refine h'1335x2 ?_
  have ek : i = ((i.toNat : Nat) : Int) := by (clear h1 h'1335x2 e1 e2; omega)
  have q : atI xs ((i.toNat : Nat) : Int) = some (.ref p) := atI_nat e1
  rw [← ek] at q
  exact ⟨p, _, q, List.getElem?_eq_getElem hk, List.getElem_mem hk, e2⟩
noncomputable def dW (t : T3) : PyData := .tuple [.int t.1, .int t.2.1, .int t.2.2]
theorem dd_tupW {K : PySem.W.Frag} {H : Hp} {p : Addr} {t : T3} (h : H p = some (tupW t)) : DD K H (.ref p) (dW t) := .tup (SqT.of h) (.cons (.int _) (.cons (.int _) (.cons (.int _) .nil)))
theorem Pl.dds {K : PySem.W.Frag} {H : Hp} : ∀ {ws : List T3} {xs : List V}, Pl H xs ws → DDs K H xs (ws.map dW)
  | [], [], _ => .nil
  | [], _ :: _, h => by have := h.1; simp at this
  | _ :: _, [], h => by have := h.1; simp at this
  | t :: ws, x :: xs, h => by
    refine L2.put_away fun G'1339x5 h'1339x5 => ?_
    obtain ⟨p, e1, e2⟩ := h.2 0 t rfl
    refine h'1339x5 ?_
    cases e1
    refine .cons (dd_tupW e2) (Pl.dds ⟨by have := h.1; simpa using this, fun i u e => ?_⟩)
    have := h.2 (i + 1) u (by simpa using e)
    simpa using this
theorem Pl.dd {K : PySem.W.Frag} {H : Hp} {a : Addr} {ws : List T3} {xs : List V} (hs : SqL K H a xs) (h : Pl H xs ws) : DD K H (.ref a) (.list (ws.map dW)) := .lst hs h.dds
theorem eqv_dW (t u : T3) : PyData.eqv (dW t) (dW u) = decide (t = u) := by
  refine L2.put_away fun G'1341x1 h'1341x1 => ?_
  obtain ⟨a, b, c⟩ := t
  refine h'1341x1 ?_
  refine L2.put_away fun G'1341x2 h'1341x2 => ?_
  obtain ⟨x, y, z⟩ := u
  refine h'1341x2 ?_
  unfold dW
  simp only [PyData.eqv, PyData.eqvAll]
  by_cases h1 : a = x <;> by_cases h2 : b = y <;> by_cases h3 : c = z <;> simp [h1, h2, h3]
theorem eqvAll_dW : ∀ ws vs : List T3, PyData.eqvAll (ws.map dW) (vs.map dW) = decide (ws = vs)
  | [], [] => by simp [PyData.eqvAll]
  | [], _ :: _ => by simp [PyData.eqvAll]
  | _ :: _, [] => by simp [PyData.eqvAll]
  | t :: ws, u :: vs => by
    simp only [List.map_cons, PyData.eqvAll, eqv_dW, eqvAll_dW ws vs]
    by_cases h1 : t = u <;> by_cases h2 : ws = vs <;> simp [h1, h2]
theorem lay_dW : ∀ ws : List T3, PyData.canLayAll0 (ws.map dW) = true ∧ PyData.depthAll (ws.map dW) ≤ 1
  | [] => by simp [PyData.canLayAll0, PyData.depthAll]
  | t :: ws => by
    have := lay_dW ws
    simp only [List.map_cons, PyData.canLayAll0, PyData.depthAll, this.1, Bool.and_true]
    refine ⟨by simp [dW, PyData.canLay0, PyData.canLayAll0], ?_⟩
    have e : PyData.depth (dW t) = 1 := by simp [dW, PyData.depth, PyData.depthAll]
    rw [e]
    (clear e; omega)
section
variable {K : PySem.W.Frag} {H : Hp} {Q : VK} {a b : Addr} {xs ys : List V} {ws vs : List T3}
end
end L2
namespace L2
open PySem PySem.Spec PyProof.Rows
theorem Inv.turnedLaid {X : Cx} {pins : List (Addr × Obj)} {σ : St} {H : Hp} {s : Shared} {h' : Heap} {t' : Nat} {ch : List Addr} {T : Addr} {o : HO} (I : Inv X pins σ H s) (k : ∀ b u, b ∉ ch → s.heap.get? b = some u → h'.get? b = some u)
    (hc : ∀ b ∈ ch, FpOk X pins H b) (hT : s.heap.objs.size ≤ T) (new : ObjOk X.prog X.w (upd H T o) h' T o) : Inv X pins σ (upd H T o) { s with heap := h', toks := t' } := by
  have nT : H T = none := I.hok.fresh hT
  have nit : ∀ b u, H b = some u → b ∉ ch := fun b u e z => by rw [(hc b z).1] at e; cases e
  have lt : ∀ b u, s.heap.get? b = some u → b ≠ T := fun b u e => Nat.ne_of_lt (Nat.lt_of_lt_of_le (Heap.lt_size e) hT)
  refine I.step (g' := s.gens) (d' := s.drawn) (ch := ch) (fun b hb => ⟨(hc b hb).2.2.2.1, (hc b hb).2.1, (hc b hb).2.2.2.2.1, (hc b hb).2.2.2.2.2⟩) (fun b u _ _ h e _ => k b u h e) (fun b u _ _ h e _ => ⟨u.slots, k b u h e⟩)
    (fun b u _ e n => by rw [upd_ne (lt b u e)]; exact n) (fun b u h e => ⟨u, k b u h e⟩) (fun b xs e => by rw [upd_ne (ne_of_none e nT)]; exact e) (fun b u v e => by rw [upd_ne (ne_of_none e nT)]; exact e)
    (fun b ps e => ⟨#[], by rw [upd_ne (ne_of_none e nT), e]; simp⟩) (fun m hm => ?_) (fun b u e => ?_) I.bare
  · refine L2.put_away fun G'1363x8 h'1363x8 => ?_
    obtain ⟨u, es, ep, ho, r⟩ := hm
    refine h'1363x8 ?_
    exact ⟨u, es, ep, k _ u (fun z => (hc _ z).2.1 rfl) ho, r⟩
  · by_cases hb : b = T
    · subst hb
      rw [upd_same] at e
      cases e
      exact new
    · rw [upd_ne hb] at e
      refine (I.hok b u e).stay (fun c v hcc q => k c v ?_ q) (fun c q => by rw [upd_ne (ne_of_none q nT)]; exact q) fun c xs q => by rw [upd_ne (ne_of_none q nT)]; exact q
      rcases hcc with z | z
      · rw [z]; exact nit b u e
      · exact nit c _ z
theorem Inv.turnedL {X : Cx} {pins : List (Addr × Obj)} {σ : St} {H : Hp} {s : Shared} {h' : Heap} {t' : Nat} {ch : List Addr} (I : Inv X pins σ H s) (k : ∀ b u, b ∉ ch → s.heap.get? b = some u → h'.get? b = some u)
    (hc : ∀ b ∈ ch, FpOk X pins H b) : Inv X pins σ H { s with heap := h', toks := t' } := by
  have nit : ∀ b u, H b = some u → b ∉ ch := fun b u e z => by rw [(hc b z).1] at e; cases e
  refine I.step (g' := s.gens) (d' := s.drawn) (ch := ch) (fun b hb => ⟨(hc b hb).2.2.2.1, (hc b hb).2.1, (hc b hb).2.2.2.2.1, (hc b hb).2.2.2.2.2⟩) (fun b u _ _ h e _ => k b u h e) (fun b u _ _ h e _ => ⟨u.slots, k b u h e⟩)
    (fun _ _ _ _ n => n) (fun b u h e => ⟨u, k b u h e⟩) (fun _ _ e => e) (fun _ _ _ e => e) (fun b ps e => ⟨#[], by rw [e]; simp⟩) (fun m hm => ?_) (fun b u e => ?_) I.bare
  · refine L2.put_away fun G'1364x5 h'1364x5 => ?_
    obtain ⟨u, es, ep, ho, r⟩ := hm
    refine h'1364x5 ?_
    exact ⟨u, es, ep, k _ u (fun z => (hc _ z).2.1 rfl) ho, r⟩
  · refine (I.hok b u e).stay (fun c v hcc q => k c v ?_ q) (fun _ q => q) fun _ _ q => q
    rcases hcc with z | z
    · rw [z]; exact nit b u e
    · exact nit c _ z
noncomputable def Itp (n : Nat) (ok : Hp → Prop) (f : Nat → Hp → V → V → Prop) : It :=
  ⟨fun i H => i < n ∧ ok H, fun i H x H' => ∃ T u v, H T = none ∧ x = .ref T ∧ H' = upd H T (.tup [u, v]) ∧ f i H u v, fun i H => i = n ∧ ok H⟩
noncomputable def okZ (K : PySem.W.Frag) (a b : Addr) (n : Nat) (H : Hp) : Prop := ∃ xs ys, SqL K H a xs ∧ SqL K H b ys ∧ min xs.length ys.length = n
noncomputable def Itz (K : PySem.W.Frag) (a b : Addr) (n : Nat) : It := Itp n (okZ K a b n) fun i H u v => (∀ xs, SqL K H a xs → xs[i]? = some u) ∧ ∀ ys, SqL K H b ys → ys[i]? = some v
noncomputable def iZip (K : PySem.W.Frag) (ta tb : TE) : TI := fun σ H R => ta σ H fun x H1 => tb σ H1 fun y H2 => ∃ a b xs ys, x = .ref a ∧ y = .ref b ∧ SqL K H2 a xs ∧ SqL K H2 b ys ∧ R (Itz K a b (min xs.length ys.length)) H2
section
variable {X : Cx} {es : List Expr} {k : Nat} {tpos : Pos}
end
theorem iZip_ap {K : PySem.W.Frag} {ta tb : TE} {σ : St} {H : Hp} {R : It → Hp → Prop} : iZip K ta tb σ H R = ta σ H fun x H1 => tb σ H1 fun y H2 => ∃ a b xs ys, x = .ref a ∧ y = .ref b ∧ SqL K H2 a xs ∧ SqL K H2 b ys ∧ R (Itz K a b (min xs.length ys.length)) H2 := rfl
noncomputable def okE (K : PySem.W.Frag) (a : Addr) (n : Nat) (H : Hp) : Prop := ∃ xs, SqL K H a xs ∧ xs.length = n
noncomputable def Ite (K : PySem.W.Frag) (a : Addr) (n : Nat) : It := Itp n (okE K a n) fun i H u v => u = .int i ∧ ∀ xs, SqL K H a xs → xs[i]? = some v
noncomputable def tnE (e it l : Addr) (i : Nat) (h : Heap) : Prop := (∃ old, IsEnum h e it i old) ∧ h.IsListIter it l i
theorem turn_enum {P : Program} {w : World} {K : PySem.W.Frag} {es : List Expr} {k : Nat} {pos : Pos} {e it l : Addr} {n : Nat} (d1 : e ≠ it) (d2 : l ≠ e) (d3 : l ≠ it) :
    Turn P w K (.Tuple es k pos) (Ite K l n) [e, it] e (tnE e it l) where
  mem := by simp
  obj := fun i h st b hb => by
    refine L2.put_away fun G'1381x4 h'1381x4 => ?_
    obtain ⟨⟨old, h1⟩, ⟨o4, h4, _, d4⟩⟩ := st
    refine h'1381x4 ?_
    simp only [List.mem_cons, List.not_mem_nil, or_false] at hb
    rcases hb with rfl | rfl
    · exact ⟨_, h1, fun v q => nomatch q⟩
    · exact ⟨_, h4, fun v q => by rw [d4] at q; cases q⟩
  keep := fun i h h' st kk => by
    refine L2.put_away fun G'1381x10 h'1381x10 => ?_
    obtain ⟨⟨old, h1⟩, h4⟩ := st
    refine h'1381x10 ?_
    exact ⟨⟨old, kk _ (by simp) _ h1⟩, h4.at fun o e => kk _ (by simp) o e⟩
  item := by
    intro X hP hw hK hc i pins s σ H E I hf st hg
    subst hP hw hK
    refine L2.put_away fun G'1381x15 h'1381x15 => ?_
    obtain ⟨hi, xs, ha, hn⟩ := hg
    refine h'1381x15 ?_
    refine L2.put_away fun G'1381x16 h'1381x16 => ?_
    obtain ⟨us, ru, pu, _⟩ := I.list ha
    refine h'1381x16 ?_
    have lu := ru.length
    obtain ⟨h1, h4⟩ := st
    have WT := WalksT.enumerate (prog := X.prog) (w := X.w) (A := X.A) (I.ok.hd hc) e it l d1 d2 d3 us.toArray
    refine WT.item i s _ _ (by simp only [List.size_toArray]; (clear h'1381x15 h'1381x16; omega)) ⟨h1, h4, pu.isList⟩ fun T vals h' tk hPt hT tup mid kk => ?_
    refine L2.put_away fun G'1381x21 h'1381x21 => ?_
    obtain ⟨t, x, ex, rfl⟩ := hPt
    refine h'1381x21 ?_
    have ex' : us[i]? = some x := by simpa using ex
    have hxl : i < xs.length := by (clear h'1381x15 h'1381x16 hT mid h'1381x21 ex ex' lu; omega)
    have gx : xs[i]? = some xs[i] := List.getElem?_eq_getElem hxl
    refine L2.put_away fun G'1381x25 h'1381x25 => ?_
    obtain ⟨x2, q1, rx⟩ := ru.get gx
    refine h'1381x25 ?_
    rw [ex'] at q1
    cases q1
    refine ⟨.ref T, rfl, WT.go es k pos i T { s with heap := h', toks := tk } _ _ mid fun h2' st2 kk2 => ?_⟩
    have Tw := WT.apart i T h' mid
    have nT : H T = none := I.hok.fresh hT
    refine L2.put_away fun G'1381x31 h'1381x31 => ?_
    obtain ⟨oT, hoT, cT, nT2, dT⟩ := tup
    refine h'1381x31 ?_
    have tup2 : IsTup h2' T #[.int i t, x] := ⟨oT, kk2 T oT Tw hoT, cT, nT2, dT⟩
    have I2 : Inv X pins σ (upd H T (.tup [.int i, xs[i]])) { s with heap := h2', toks := tk } :=
      I.turnedLaid (fun b u hb e => kk2 b u hb (kk b u hb e)) (fun b hb => hf b hb) hT ⟨show 2 ≤ sizeLine by decide, [.int i t, x], .cons ⟨t, rfl⟩ (.cons rx .nil), tup2⟩
    refine ⟨.ref T, _, I2, rfl, ⟨T, .int i, xs[i], nT, rfl, rfl, rfl, fun zs hz => by rw [I.list_inj hz ha]; exact gx⟩, ?_, fun b hb => ?_⟩
    · refine L2.put_away fun G'1381x36 h'1381x36 => ?_
      obtain ⟨a1, a2, _⟩ := st2
      refine h'1381x36 ?_
      exact ⟨a1, a2⟩
    · have : b ≠ T := by
        rintro rfl
        simp only [List.mem_cons, List.not_mem_nil, or_false] at hb
        have lt : b < s.heap.objs.size := by
          obtain ⟨old, h1⟩ := h1
          refine L2.put_away fun G'1381x43 h'1381x43 => ?_
          obtain ⟨o4, h4, _⟩ := h4
          refine h'1381x43 ?_
          rcases hb with rfl | rfl
          · exact Heap.lt_size h1
          · exact Heap.lt_size h4
        exact absurd (Nat.lt_of_lt_of_le lt hT) (Nat.lt_irrefl _)
      rw [upd_ne this]
      exact (hf b hb).1
  done := by
    intro X hP hw hK hc i pins s σ H E I hf st hg
    subst hP hw hK
    refine L2.put_away fun G'1381x53 h'1381x53 => ?_
    obtain ⟨hi, xs, ha, hn⟩ := hg
    refine h'1381x53 ?_
    refine L2.put_away fun G'1381x54 h'1381x54 => ?_
    obtain ⟨us, ru, pu, _⟩ := I.list ha
    refine h'1381x54 ?_
    have lu := ru.length
    obtain ⟨h1, h4⟩ := st
    have WT := WalksT.enumerate (prog := X.prog) (w := X.w) (A := X.A) (I.ok.hd hc) e it l d1 d2 d3 us.toArray
    have ei : us.toArray.size = i := by simp only [List.size_toArray]; omega
    refine WT.done s _ _ (by rw [ei]; exact ⟨h1, h4, pu.isList⟩) fun h' tk kk => ⟨rfl, I.turnedL kk fun b hb => hf b hb⟩
  self := fun A i s Q E st h => by
    refine L2.put_away fun G'1381x61 h'1381x61 => ?_
    obtain ⟨⟨old, h1⟩, _⟩ := st
    refine h'1381x61 ?_
    exact wpAny_pyIter_enum h1 h
noncomputable def iEnum (K : PySem.W.Frag) (ta : TE) : TI := fun σ H R => ta σ H fun x H1 => ∃ a xs, x = .ref a ∧ SqL K H1 a xs ∧ R (Ite K a xs.length) H1
section
variable {X : Cx} {es : List Expr} {k : Nat} {tpos : Pos}
theorem pi_enum {l : Expr} {tl : TE} {p pos : Pos} (hg : Gl X "enumerate") (hm : X.mg "enumerate" = none) (hl : PE X l tl) (hs : starEach [l] X.env = [(false, eval l X.env)] := by rfl) :
    PI X (.Tuple es k tpos) (.Call (.Name "enumerate" p) [l] [] pos) (iEnum X.K tl) := by
  intro pins s σ H R I h
  refine Call_ (ld_blt I hg hm (u := .type "enumerate") (by decide +kernel) (PyProof.Rows.callWith_type1 ?_ hs rfl))
  refine thn ((pa_cons hl pa_nil hs) pos pins s σ H (fun vs H1 => ∃ x : V, vs = [x] ∧ ∃ a xs, x = .ref a ∧ SqL X.K H1 a xs ∧ R (Ite X.K a xs.length) H1) I ?_) fun us s1 ⟨vs, H1, I1, r, x, e, a, xs, ea, ha, q⟩ => ?_
  · show tl σ H fun x H1 => ∃ x', [x] = [x'] ∧ _
    have e : (fun (x : V) (H1 : Hp) => ∃ x', [x] = [x'] ∧ ∃ a xs, x' = V.ref a ∧ SqL X.K H1 a xs ∧ R (Ite X.K a xs.length) H1) = fun (x : V) (H1 : Hp) => ∃ a xs, x = V.ref a ∧ SqL X.K H1 a xs ∧ R (Ite X.K a xs.length) H1 := by
      funext x H1
      refine propext ⟨fun ⟨x', e, q⟩ => ?_, fun q => ⟨x, rfl, q⟩⟩
      cases e
      exact q
    rw [e]
    exact h
  subst e ea
  refine L2.put_away fun G'1385x14 h'1385x14 => ?_
  obtain ⟨u, rfl, r1⟩ := Vals.one r
  refine h'1385x14 ?_
  cases r1
  refine L2.put_away fun G'1385x16 h'1385x16 => ?_
  obtain ⟨us, ru, pu, _⟩ := I1.list ha
  refine h'1385x16 ?_
  have la : a < s1.heap.objs.size := by obtain ⟨o, e, _⟩ := pu.isList; exact Heap.lt_size e
  refine call_enumerate_list pu.isList fun h' hz hi1 hsz hk => ?_
  refine wpAny_pyIter_enum hz ?_
  have I2 : Inv X pins σ H1 { s1 with heap := h' } := I1.kept (t' := s1.toks) hk
  refine ⟨_, _, _, _, H1, rfl, I2, turn_enum (Nat.succ_ne_self _) (Nat.ne_of_lt (Nat.lt_succ_of_lt la)) (Nat.ne_of_lt la), ⟨⟨_, hz⟩, hi1⟩, fun c hc => ?_, q⟩
  have hc' : s1.heap.objs.size ≤ c := by
    simp only [List.mem_cons, List.not_mem_nil, or_false] at hc
    rcases hc with rfl | rfl <;> first | exact Nat.le_refl _ | exact Nat.le_add_right _ _
  exact I1.fpOk hc' (I1.hok.fresh hc')
end
theorem iEnum_ap {K : PySem.W.Frag} {ta : TE} {σ : St} {H : Hp} {R : It → Hp → Prop} : iEnum K ta σ H R = ta σ H fun x H1 => ∃ a xs, x = .ref a ∧ SqL K H1 a xs ∧ R (Ite K a xs.length) H1 := rfl
theorem forW_enum {K : PySem.W.Frag} {a : Addr} {xs : List V} {g : TG} {tb : TS} {D : Ends} {σ : St} {H : Hp} (Pv : Nat → St → Hp → Prop) (h0 : Pv 0 σ H) (hl : ∀ i σ H, Pv i σ H → SqL K H a xs)
    (hs : ∀ (i : Nat) v T σ H, xs[i]? = some v → H T = none → Pv i σ H → g (.ref T) σ (upd H T (.tup [.int i, v])) fun σ2 H2 => tb { D with nx := Pv (i + 1), ct := Pv (i + 1), bk := D.nx } σ2 H2)
    (hd : ∀ σ H, Pv xs.length σ H → D.nx σ H) : ForW (Ite K a xs.length) g tb D σ H := by
  refine ⟨fun i m σ H => m = xs.length - i ∧ i ≤ xs.length ∧ Pv i σ H, ⟨_, rfl, Nat.zero_le _, h0⟩, ?_⟩
  rintro i m σ1 H1 ⟨rfl, hi, p⟩
  have qa := hl i σ1 H1 p
  by_cases hlt : i < xs.length
  · refine .inr ⟨⟨hlt, xs, qa, rfl⟩, Pv (i + 1), fun σ' H' p' => ⟨xs.length - (i + 1), by (clear hl hs hi; omega), rfl, hlt, p'⟩, fun x H' y => ?_⟩
    refine L2.put_away fun G'1388x8 h'1388x8 => ?_
    obtain ⟨T, u, v, nT, rfl, rfl, rfl, f2⟩ := y
    refine h'1388x8 ?_
    exact hs i v T σ1 H1 (f2 xs qa) nT p
  · have e : i = xs.length := by (clear hl hs; omega)
    subst e
    exact .inl ⟨⟨rfl, xs, qa, rfl⟩, hd σ1 H1 p⟩
end L2
namespace L2
open PySem PySem.Spec PyProof.Rows
noncomputable def Its (lo c : Int) (n : Nat) : It := ⟨fun i _ => i < n, fun i H x H' => H' = H ∧ x = .int (lo + i * c), fun i _ => n ≤ i⟩
section
variable {X : Cx} {tg : Expr}
noncomputable def iRngA (ta : TA) : TI := fun σ H R => ta σ H fun vs H1 => ∃ i j : Int, vs = [.int i, .int j] ∧ R (Its i 1 (j - i).toNat) H1
noncomputable def iRng3 (ta : TA) : TI := fun σ H R => ta σ H fun vs H1 => ∃ (i j c : Int) (n : Nat), vs = [.int i, .int j, .int c] ∧ 0 < c ∧ c < 1000000 ∧ (n : Int) = Builtin.Range.rangeSize i j c ∧ R (Its i c n) H1
end
section
variable {D : Ends} {σ : St} {H : Hp} {Q : VK}
theorem iRngA_ap {ta : TA} {R : It → Hp → Prop} : iRngA ta σ H R = ta σ H fun vs H1 => ∃ i j : Int, vs = [.int i, .int j] ∧ R (Its i 1 (j - i).toNat) H1 := rfl
theorem iRng3_ap {ta : TA} {R : It → Hp → Prop} : iRng3 ta σ H R = ta σ H fun vs H1 => ∃ (i j c : Int) (n : Nat), vs = [.int i, .int j, .int c] ∧ 0 < c ∧ c < 1000000 ∧ (n : Int) = Builtin.Range.rangeSize i j c ∧ R (Its i c n) H1 := rfl
end
end L2
namespace L2
open PySem PySem.Spec PyProof.Rows
noncomputable def CT (K : PySem.W.Frag) (mg : Str → Option Value) (x : Str) (ns : List Int) : Prop := ∃ a : Addr, mg x = some (.ref a) ∧ ∀ H : Hp, SqT K H a (ns.map V.int)
theorem ct_mk {K : PySem.W.Frag} {h : Heap} {mg : Str → Option Value} {x : Str} {ns : List Int} {a : Addr} {o : Obj} {its : Array Value} {n : Nat} (X : K.In h) (G : h.Ns mainGlobals mg) (e : PySem.W.nsIn K mainGlobals x = some (some (.ref a)))
    (l : K.lookup a = some o) (c : o.cls = .type "tuple") (d : o.data = .seq its n) (z : its.size ≤ sizeLine) (v : Vals (ns.map V.int) its.toList) : CT K mg x ns := ⟨a, PySem.W.mg_of X G e, fun _ => .inr ⟨o, its, n, l, c, d, z, v⟩⟩
end L2
namespace SM
noncomputable def liesB (u : T3) (s r : Int) : Bool := decide (u.1 - u.2.2 ≤ (r - u.2.1 - u.2.2) % gcdI s u.1)
end SM
namespace L2
open PySem PySem.Spec PyProof.Rows SM
inductive Pap where
  | inn (k : Int)
  | par (b : Int) (ps : List Pap)
mutual
noncomputable def Pap.dep : Pap → Nat
  | .inn _ => 0
  | .par _ ps => Pap.deps ps + 1
noncomputable def Pap.deps : List Pap → Nat
  | [] => 0
  | p :: ps => max p.dep (Pap.deps ps)
end
theorem Pap.dep_mem : ∀ {ps : List Pap} {p : Pap}, p ∈ ps → p.dep ≤ Pap.deps ps
  | q :: ps, p, h => by
    simp only [Pap.deps]
    rcases List.mem_cons.mp h with e | e
    · rw [e]; omega
    · have := Pap.dep_mem e; omega
-- a paper that lies in the heap; N: what is known of the places of its lists
mutual
inductive PapIn (K : PySem.W.Frag) (N : Addr → Prop) (H : Hp) : V → Pap → Prop where
  | inn {a : Addr} {k : Int} : H a = some (.tup [.str "in", .int k]) → PapIn K N H (.ref a) (.inn k)
  | par {a l : Addr} {b : Int} {xs : List V} {ps : List Pap} : H a = some (.tup [.str "parted", .int b, .ref l]) → H l = some (.lst xs) → N l → xs.length < 2 ^ 60 → PapsIn K N H xs ps → PapIn K N H (.ref a) (.par b ps)
inductive PapsIn (K : PySem.W.Frag) (N : Addr → Prop) (H : Hp) : List V → List Pap → Prop where
  | nil : PapsIn K N H [] []
  | cons {x : V} {xs : List V} {p : Pap} {ps : List Pap} : PapIn K N H x p → PapsIn K N H xs ps → PapsIn K N H (x :: xs) (p :: ps)
end
section
variable {K : PySem.W.Frag} {N N' : Addr → Prop} {H H' : Hp}
mutual
theorem PapIn.mono (g : Same H H') : ∀ {v : V} {p : Pap}, PapIn K N H v p → PapIn K N H' v p
  | _, _, .inn h => .inn (g _ _ h)
  | _, _, .par h hl n hz hs => .par (g _ _ h) (g _ _ hl) n hz (PapsIn.mono g hs)
theorem PapsIn.mono (g : Same H H') : ∀ {vs : List V} {ps : List Pap}, PapsIn K N H vs ps → PapsIn K N H' vs ps
  | _, _, .nil => .nil
  | _, _, .cons h hs => .cons (PapIn.mono g h) (PapsIn.mono g hs)
end
mutual
theorem PapIn.imp (f : ∀ l, N l → N' l) : ∀ {v : V} {p : Pap}, PapIn K N H v p → PapIn K N' H v p
  | _, _, .inn h => .inn h
  | _, _, .par h hl n hz hs => .par h hl (f _ n) hz (PapsIn.imp f hs)
theorem PapsIn.imp (f : ∀ l, N l → N' l) : ∀ {vs : List V} {ps : List Pap}, PapsIn K N H vs ps → PapsIn K N' H vs ps
  | _, _, .nil => .nil
  | _, _, .cons h hs => .cons (PapIn.imp f h) (PapsIn.imp f hs)
end
theorem upd_tup {D b : Addr} {zs ys : List V} {o : HO} (hD : H D = some (.lst zs)) (h : H b = some (.tup ys)) : upd H D o b = some (.tup ys) := by
  rw [upd_ne (ne_of h hD (by intro z; cases z))]
  exact h
mutual
theorem PapIn.write {D : Addr} {zs : List V} {o : HO} (hD : H D = some (.lst zs)) (f : ∀ l, N l → l ≠ D) : ∀ {v : V} {p : Pap}, PapIn K N H v p → PapIn K N (upd H D o) v p
  | _, _, .inn h => .inn (upd_tup hD h)
  | _, _, .par h hl n hz hs => .par (upd_tup hD h) (by rw [upd_ne (f _ n)]; exact hl) n hz (PapsIn.write hD f hs)
theorem PapsIn.write {D : Addr} {zs : List V} {o : HO} (hD : H D = some (.lst zs)) (f : ∀ l, N l → l ≠ D) : ∀ {vs : List V} {ps : List Pap}, PapsIn K N H vs ps → PapsIn K N (upd H D o) vs ps
  | _, _, .nil => .nil
  | _, _, .cons h hs => .cons (PapIn.write hD f h) (PapsIn.write hD f hs)
end
theorem PapsIn.len : ∀ {xs : List V} {ps : List Pap}, PapsIn K N H xs ps → xs.length = ps.length
  | _, _, .nil => rfl
  | _, _, .cons _ h => by simp [h.len]
theorem PapsIn.at : ∀ {xs : List V} {ps : List Pap}, PapsIn K N H xs ps → ∀ {i : Nat} {x : V}, xs[i]? = some x → ∃ p, ps[i]? = some p ∧ PapIn K N H x p
  | _, _, .nil, i, x, e => by simp at e
  | _, _, .cons h hs, 0, x, e => by cases e; exact ⟨_, rfl, h⟩
  | _, _, .cons h hs, i + 1, x, e => by simpa using hs.at (i := i) (by simpa using e)
theorem PapsIn.append : ∀ {xs ys : List V} {ps qs : List Pap}, PapsIn K N H xs ps → PapsIn K N H ys qs → PapsIn K N H (xs ++ ys) (ps ++ qs)
  | _, _, _, _, .nil, k => k
  | _, _, _, _, .cons h hs, k => .cons h (hs.append k)
theorem PapsIn.snoc {xs : List V} {ps : List Pap} {x : V} {p : Pap} (h : PapsIn K N H xs ps) (k : PapIn K N H x p) : PapsIn K N H (xs ++ [x]) (ps ++ [p]) := h.append (.cons k .nil)
end
noncomputable abbrev anyL : Addr → Prop := fun _ => True
theorem PapIn.any {K : PySem.W.Frag} {N : Addr → Prop} {H : Hp} {v : V} {p : Pap} (h : PapIn K N H v p) : PapIn K anyL H v p := h.imp fun _ _ => trivial
theorem Pap.deps_le {n : Nat} : ∀ {ps : List Pap}, (∀ p ∈ ps, p.dep ≤ n) → Pap.deps ps ≤ n
  | [], _ => Nat.zero_le _
  | p :: ps, h => by
    simp only [Pap.deps]
    have h1 := h p (by simp)
    have h2 := Pap.deps_le fun q hq => h q (List.mem_cons_of_mem _ hq)
    (clear h; omega)
mutual
noncomputable def rightB (ws : List T3) (s r : Int) : Pap → Bool
  | .inn k => decide (0 ≤ k) && (decide (k < ws.length) && liesB (ws.getD k.toNat (1, 0, 1)) s r)
  | .par b ps => decide (2 ≤ b) && (decide ((ps.length : Int) = b) && rightsB ws s r b 0 ps)
noncomputable def rightsB (ws : List T3) (s r b : Int) : Nat → List Pap → Bool
  | _, [] => true
  | c, p :: ps => rightB ws (s * b) (r + s * c) p && rightsB ws s r b (c + 1) ps
end
theorem rightsB_take {ws : List T3} {s r b : Int} : ∀ {ps : List Pap} {c i : Nat} {p : Pap}, ps[i]? = some p → rightsB ws s r b c (ps.take (i + 1)) = (rightsB ws s r b c (ps.take i) && rightB ws (s * b) (r + s * ((c + i : Nat) : Int)) p)
  | [], c, i, p, e => by simp at e
  | q :: ps, c, 0, p, e => by
    cases e
    simp [rightsB]
  | q :: ps, c, i + 1, p, e => by
    have e' : ps[i]? = some p := by simpa using e
    have ih := rightsB_take (ws := ws) (s := s) (r := r) (b := b) (c := c + 1) e'
    simp only [List.take_succ_cons, rightsB]
    rw [ih, Bool.and_assoc]
    have : c + 1 + i = c + (i + 1) := by (clear e e' ih; omega)
    rw [this]
theorem rightsB_false {ws : List T3} {s r b : Int} : ∀ {ps : List Pap} {c i : Nat} {p : Pap}, ps[i]? = some p → rightB ws (s * b) (r + s * ((c + i : Nat) : Int)) p = false → rightsB ws s r b c ps = false
  | [], c, i, p, e, _ => by simp at e
  | q :: ps, c, 0, p, e, h => by
    cases e
    simp only [rightsB]
    rw [show c + 0 = c from rfl] at h
    rw [h, Bool.false_and]
  | q :: ps, c, i + 1, p, e, h => by
    have e' : ps[i]? = some p := by simpa using e
    simp only [rightsB]
    have : c + (i + 1) = c + 1 + i := by (clear e h e'; omega)
    rw [this] at h
    rw [rightsB_false e' h, Bool.and_false]
mutual
noncomputable def Pap.kn : Pap → Nat
  | .inn _ => 1
  | .par _ ps => Pap.kns ps + 1
noncomputable def Pap.kns : List Pap → Nat
  | [] => 0
  | p :: ps => p.kn + Pap.kns ps
end
mutual
noncomputable def Pap.nm : Pap → List Int
  | .inn k => [k]
  | .par _ ps => Pap.nms ps
noncomputable def Pap.nms : List Pap → List Int
  | [] => []
  | p :: ps => p.nm ++ Pap.nms ps
end
theorem Pap.kn_mem : ∀ {ps : List Pap} {p : Pap}, p ∈ ps → p.kn ≤ Pap.kns ps
  | q :: ps, p, h => by
    simp only [Pap.kns]
    rcases List.mem_cons.mp h with e | e
    · rw [e]; omega
    · have := Pap.kn_mem e; omega
mutual
theorem Pap.nm_len : ∀ p : Pap, p.nm.length ≤ p.kn
  | .inn _ => by simp [Pap.nm, Pap.kn]
  | .par _ ps => by
    have := Pap.nms_len ps
    simp only [Pap.nm, Pap.kn]
    omega
theorem Pap.nms_len : ∀ ps : List Pap, (Pap.nms ps).length ≤ Pap.kns ps
  | [] => by simp [Pap.nms]
  | p :: ps => by
    have h1 := p.nm_len
    have h2 := Pap.nms_len ps
    simp only [Pap.nms, Pap.kns, List.length_append]
    omega
end
theorem Pap.kns_take : ∀ {ps : List Pap} {i : Nat} {p : Pap}, ps[i]? = some p → Pap.kns (ps.take (i + 1)) = Pap.kns (ps.take i) + p.kn
  | [], i, p, e => by simp at e
  | q :: ps, 0, p, e => by cases e; simp [Pap.kns]
  | q :: ps, i + 1, p, e => by
    have := Pap.kns_take (ps := ps) (i := i) (by simpa using e)
    simp only [List.take_succ_cons, Pap.kns]
    (clear e; omega)
theorem Pap.nms_take : ∀ {ps : List Pap} {i : Nat} {p : Pap}, ps[i]? = some p → Pap.nms (ps.take (i + 1)) = Pap.nms (ps.take i) ++ p.nm
  | [], i, p, e => by simp at e
  | q :: ps, 0, p, e => by cases e; simp [Pap.nms]
  | q :: ps, i + 1, p, e => by
    have := Pap.nms_take (ps := ps) (i := i) (by simpa using e)
    simp only [List.take_succ_cons, Pap.nms, this, List.append_assoc]
theorem Pap.kns_append : ∀ (ps qs : List Pap), Pap.kns (ps ++ qs) = Pap.kns ps + Pap.kns qs
  | [], qs => by simp [Pap.kns]
  | p :: ps, qs => by simp only [List.cons_append, Pap.kns, Pap.kns_append ps qs]; omega
section
variable {K : PySem.W.Frag} {N : Addr → Prop} {H H' : Hp} {X : Addr} {zs : List V}
end
end L2
namespace L2
open PySem PySem.Spec PyProof.Rows
section
variable {X : Cx}
end
theorem tBM0_ap {K : PySem.W.Frag} {T : String} {r : V → List V → Hp → VK → Prop} {to : TE} {σ : St} {H : Hp} {Q : VK} : tBM0 K T r to σ H Q = to σ H fun x H1 => tyV K T x H1 ∧ r x [] H1 Q := rfl
end L2
namespace L2
open PySem PySem.Spec PyProof.Rows SM
noncomputable def Wk (u : T3) : Prop := 1 ≤ u.1 ∧ 0 ≤ u.2.1 ∧ u.2.1 < u.1 ∧ 1 ≤ u.2.2 ∧ u.2.2 ≤ u.1
section
variable {K : PySem.W.Frag} {N : Addr → Prop} {H H' : Hp} {X Y : Addr} {xs ys : List V}
end
end L2
namespace L2
open PySem PySem.Spec PyProof.Rows SM
section
variable {K : PySem.W.Frag} {N : Addr → Prop} {H : Hp}
theorem PapsIn.take : ∀ {xs : List V} {ps : List Pap} (n : Nat), PapsIn K N H xs ps → PapsIn K N H (xs.take n) (ps.take n)
  | _, _, 0, h => by simp; exact .nil
  | _, _, n + 1, .nil => by simp; exact .nil
  | _, _, n + 1, .cons h hs => by simp only [List.take_succ_cons]; exact .cons h (hs.take n)
theorem PapsIn.drop : ∀ {xs : List V} {ps : List Pap} (n : Nat), PapsIn K N H xs ps → PapsIn K N H (xs.drop n) (ps.drop n)
  | _, _, 0, h => h
  | _, _, n + 1, .nil => by simp; exact .nil
  | _, _, n + 1, .cons h hs => by simp only [List.drop_succ_cons]; exact hs.drop n
end
mutual
noncomputable def Pap.pd : Pap → PyData
  | .inn k => .tuple [.str "in", .int k]
  | .par b ps => .tuple [.str "parted", .int b, .list (Pap.pds ps)]
noncomputable def Pap.pds : List Pap → List PyData
  | [] => []
  | p :: ps => p.pd :: Pap.pds ps
end
mutual
theorem PapIn.dd {K : PySem.W.Frag} {N : Addr → Prop} {H : Hp} : ∀ {v : V} {p : Pap}, PapIn K N H v p → DD K H v p.pd
  | _, _, .inn h => by
    simp only [Pap.pd]
    exact .tup (SqT.of h) (.cons (.str _) (.cons (.int _) .nil))
  | _, _, .par h hl _ _ hs => by
    simp only [Pap.pd]
    exact .tup (SqT.of h) (.cons (.str _) (.cons (.int _) (.cons (.lst (SqL.of hl) (PapsIn.dds hs)) .nil)))
theorem PapsIn.dds {K : PySem.W.Frag} {N : Addr → Prop} {H : Hp} : ∀ {vs : List V} {ps : List Pap}, PapsIn K N H vs ps → DDs K H vs (Pap.pds ps)
  | _, _, .nil => by simp only [Pap.pds]; exact .nil
  | _, _, .cons h hs => by simp only [Pap.pds]; exact .cons (PapIn.dd h) (PapsIn.dds hs)
end
mutual
theorem Pap.pd_eqv : ∀ p : Pap, PyData.eqv p.pd p.pd = true
  | .inn k => by simp [Pap.pd, PyData.eqv, PyData.eqvAll]
  | .par b ps => by simp [Pap.pd, PyData.eqv, PyData.eqvAll, Pap.pds_eqv ps]
theorem Pap.pds_eqv : ∀ ps : List Pap, PyData.eqvAll (Pap.pds ps) (Pap.pds ps) = true
  | [] => by simp [Pap.pds, PyData.eqvAll]
  | p :: ps => by simp [Pap.pds, PyData.eqvAll, Pap.pd_eqv p, Pap.pds_eqv ps]
end
theorem ok_in : PyData.strOk ("in" : Str) = true := by decide +kernel
theorem ok_parted : PyData.strOk ("parted" : Str) = true := by decide +kernel
mutual
theorem Pap.pd_lay : ∀ p : Pap, PyData.canLay0 p.pd = true ∧ PyData.depth p.pd ≤ 2 * p.dep + 1
  | .inn k => by simp [Pap.pd, PyData.canLay0, PyData.canLayAll0, PyData.depth, PyData.depthAll, ok_in]
  | .par b ps => by
    have := Pap.pds_lay ps
    simp only [Pap.pd, PyData.canLay0, PyData.canLayAll0, PyData.depth, PyData.depthAll, ok_parted, this.1, Pap.dep]
    refine ⟨rfl, ?_⟩
    omega
theorem Pap.pds_lay : ∀ ps : List Pap, PyData.canLayAll0 (Pap.pds ps) = true ∧ PyData.depthAll (Pap.pds ps) ≤ 2 * Pap.deps ps + 1
  | [] => by simp [Pap.pds, PyData.canLayAll0, PyData.depthAll]
  | p :: ps => by
    have h1 := Pap.pd_lay p
    have h2 := Pap.pds_lay ps
    simp only [Pap.pds, PyData.canLayAll0, PyData.depthAll, h1.1, h2.1, Pap.deps]
    refine ⟨rfl, ?_⟩
    omega
end
end L2
namespace L2
open PySem PySem.Spec PyProof.Rows

theorem find_eraseIdx {α : Type} {p : α → Bool} : ∀ {l : List α} {i : Nat}, (∀ a, l[i]? = some a → p a = false) → (l.eraseIdx i).find? p = l.find? p
  | [], _, _ => by simp
  | a :: l, 0, h => by
    have := h a rfl
    simp [List.eraseIdx, List.find?, this]
  | a :: l, i + 1, h => by
    have := find_eraseIdx (l := l) (i := i) (p := p) fun b e => h b (by simpa using e)
    simp only [List.eraseIdx, List.find?, this]

theorem ObjOk.there {P : Program} {w : World} {H : Hp} {h : Heap} {a : Addr} : ∀ {o : HO}, ObjOk P w H h a o → ∃ u, h.get? a = some u := fun {o} x => by
  induction o with
  | lst xs => obtain ⟨_, _, _, _, e⟩ := x; exact ⟨_, e⟩
  | tup xs => obtain ⟨_, _, _, p⟩ := x; obtain ⟨u, hu, _⟩ := p; exact ⟨u, hu⟩
  | dK kvs => obtain ⟨_, _, _, _, o, _, _, e, _⟩ := x; exact ⟨_, e⟩
  | dT kvs => obtain ⟨_, _, _, _, o, _, _, e, _⟩ := x; exact ⟨_, e⟩
  | set S n => obtain ⟨o, _, _, _, e, _⟩ := x; exact ⟨_, e⟩
  | ins C dx fs => obtain ⟨_, _, _, e, _⟩ := x; exact ⟨_, e⟩
  | own y => obtain ⟨_, e⟩ := x; exact ⟨_, e⟩
  | xd fs => obtain ⟨_, ⟨_, _, _, e, _⟩, _⟩ := x; exact ⟨_, e⟩
  | rng lo hi => obtain ⟨_, _, _, e⟩ := x; exact ⟨_, e⟩
  | frz o u _ => exact ⟨_, x.1⟩
  | tbl ps => exact ⟨_, x⟩
  | met f y => exact ⟨_, x⟩
  | ext φ => exact x.2.1

structure Fly (h₀ : Heap) (H : Hp) (h : Heap) (e : Addr) (cls : Value) : Prop where
  new : h₀.get? e = none
  free : H e = none
  obj : ∃ oe vs T oT ts a0, h.get? e = some oe ∧ (oe.cls = cls ∧ vs[0]? = some a0) ∧ oe.data = .fields vs ∧ vs[1]? = some (.ref T) ∧ T ≠ e ∧ h.get? T = some oT ∧ oT.data = .fields ts ∧ ts[3]? = some .none ∧
    h₀.get? T = none ∧ H T = none

noncomputable def CXx (P : Program) (w : World) : CXT := fun outer H s E e s' =>
  ∃ a cls H', e = .ref a ∧ s'.os = s.os ∧ AllBare s'.gens ∧ Un (frs outer) [] H H' s.heap s'.heap ∧ HOk P w H' s'.heap ∧ Fly s.heap H' s'.heap a cls ∧ E cls (some a) H'

theorem HOk.but {P : Program} {w : World} {H : Hp} {h h' : Heap} (hok : HOk P w H h) (as : List Addr) (hn : ∀ a ∈ as, H a = none) (k : ∀ b o, b ∉ as → h.get? b = some o → h'.get? b = some o) : HOk P w H h' := fun b u e => by
  refine (hok b u e).stay (fun c v hc q => k c v (fun z => ?_) q) (fun _ q => q) fun _ _ q => q
  rcases hc with rfl | hc
  · rw [hn _ z] at e; cases e
  · rw [hn _ z] at hc; cases hc

section
variable {P : Program} {w : World} {K : PySem.W.Frag} {mg : Str → Option Value} {base : Heap} {N : List Str} {qual : Str} {scope : Scope} {f : Addr} {cd : Value} {A : Around} {outer : List Env} {s : Shared} {H H1 : Hp} {E : XK}
  {pins : List (Addr × Obj)} {σ : St} {s1 : Shared} {e : Addr} {cls : Value}

theorem left_fly {B : Heap} {a0 : Value} {h h' : Heap} {as : List Addr} {stk : List Env} (hB : B = PySem.W.hideAll h (frs stk ++ as)) (has : ∀ a ∈ as, s.heap.get? a = none ∧ H1 a = none) (hea : e ∈ as)
    (hfs : ∀ b ∈ frs stk, H1 b = none) (hsub : ∀ b ∈ frs outer, b ∈ frs stk) (hnew : ∀ b ∈ frs stk, b ∉ frs outer → s.heap.get? b = none)
    (u : Un (frs outer) [] H H1 s.heap h) (hok : HOk P w H1 h) (L : Heap.LeftW B stk e cls a0 h h') (hF : h.FunFrames base stk) : Un (frs outer) [] H H1 s.heap h' ∧ HOk P w H1 h' ∧ Fly s.heap H1 h' e cls := by
  subst hB
  refine L2.put_away fun G'1558x4 h'1558x4 => ?_
  obtain ⟨k1, k2, ⟨oe, vs, T, oT, ts, he, hc, hd, h1, hnT, hTe, hT, hdT, h3⟩, k4⟩ := L
  refine h'1558x4 ?_
  have keep : ∀ b o, b ∉ frs stk ++ as → h.get? b = some o → h'.get? b = some o := fun b o hb q => k1 b o (PySem.W.hideAll_get _ q hb)
  have hall : ∀ a ∈ frs stk ++ as, H1 a = none := fun a ha => (List.mem_append.mp ha).elim (hfs a) fun z => (has a z).2
  have newAs : ∀ {b : Addr} {o : Obj}, s.heap.get? b = some o → b ∉ as := fun {b o} q z => by rw [(has b z).1] at q; cases q
  have hTf : T ∉ frs stk := fun z => by
    refine L2.put_away fun G'1558x9 h'1558x9 => ?_
    obtain ⟨_, o, ho, hx⟩ := k2.mem z
    refine h'1558x9 ?_
    rw [hT] at ho; cases ho; exact hx _ hdT
  have out : ∀ o, h.get? T = some o → T ∈ as := fun o q => by
    by_cases z : T ∈ frs stk ++ as
    · exact (List.mem_append.mp z).elim (fun y => absurd y hTf) id
    · have := PySem.W.hideAll_get (h := h) _ q z
      rw [hnT] at this; cases this
  have slot : ∀ b o, h.get? b = some o → b ∈ frs stk → ∃ sl, h'.get? b = some { o with slots := sl } := fun b o q hb => by
    refine L2.put_away fun G'1558x17 h'1558x17 => ?_
    obtain ⟨_, o', ho', hx⟩ := hF.mem hb
    refine h'1558x17 ?_
    rw [q] at ho'; cases ho'
    exact k4 b o q hx
  refine ⟨⟨fun b o q n hb hx => ?_, fun b o q n hb hx => ?_, u.free, fun b o q hx => ?_, u.tups, u.frzs, u.tbls⟩, hok.but _ hall keep, ⟨(has e hea).1, (has e hea).2, oe, vs, T, oT, ts, a0, he, hc, hd, h1, hTe, hT, hdT, h3, ?_, ?_⟩⟩
  · refine keep b o (fun z => (List.mem_append.mp z).elim (fun y => ?_) (newAs q)) (u.keep b o q n hb hx)
    by_cases hb' : b ∈ frs outer
    · exact hb hb'
    · rw [hnew b y hb'] at q; cases q
  · obtain ⟨sl, e1⟩ := u.slot b o q n hb hx
    obtain ⟨sl', e2⟩ := slot b _ e1 (hsub b hb)
    exact ⟨sl', e2⟩
  · obtain ⟨o', e1⟩ := u.there b o q hx
    by_cases z : b ∈ frs stk
    · obtain ⟨sl, e2⟩ := slot b _ e1 z
      exact ⟨_, e2⟩
    · exact ⟨o', keep b o' (fun y => (List.mem_append.mp y).elim z (newAs q)) e1⟩
  · cases q : s.heap.get? T with
    | none => rfl
    | some o =>
      obtain ⟨o', e1⟩ := u.there T o q (by simp)
      exact absurd (out o' e1) (newAs q)
  · cases q : H1 T with
    | none => rfl
    | some o =>
      obtain ⟨o', e1⟩ := ObjOk.there (hok T o q)
      rw [(has T (out o' e1)).2] at q; cases q

theorem thrown_made {h' : Heap} {vs : List Value} (I : Inv (cxOf (CXx P w) P w K mg base N qual scope f cd A outer s H E) pins σ H1 s1) (hx : Heap.MadeExcOf s1.heap h' e cls vs) (q : E cls (some e) H1) :
    (cxOf (CXx P w) P w K mg base N qual scope f cd A outer s H E).xe (.ref e) { s1 with heap := h' } := by
  have hok : HOk P w H1 h' := I.hok.kept hx.keeps
  have he1 : H1 e = none := by
    cases z : H1 e with
    | none => rfl
    | some o =>
      obtain ⟨o', e1⟩ := ObjOk.there (I.hok e o z)
      rw [hx.new] at e1; cases e1
  have hes : s.heap.get? e = none := by
    cases z : s.heap.get? e with
    | none => rfl
    | some o =>
      obtain ⟨o', e1⟩ := I.base.there e o z (List.not_mem_nil)
      rw [hx.new] at e1; cases e1
  have hu : Un (frs outer) [] H H1 s.heap h' := Un.trans I.base (Un.kept hx.keeps)
  have hF : h'.FunFrames base (envOfC qual scope s.heap.objs.size f cd :: outer) := Heap.FunFrames.of_keeps (fun b o z _ => ⟨o, hx.keeps b o z, rfl⟩) I.stack
  have hnw : ∀ b ∈ frs (envOfC qual scope s.heap.objs.size f cd :: outer), b ∉ frs outer → s.heap.get? b = none := fun b hb hn => by
    rcases List.mem_cons.mp hb with rfl | hb
    · exact Heap.get?_none_of_le (Nat.le_refl _)
    · exact absurd hb hn
  refine L2.put_away fun G'1559x21 h'1559x21 => ?_
  obtain ⟨t, he, _, _⟩ := hx.there
  refine h'1559x21 ?_
  refine wpAny_leaving_firstW (base := PySem.W.hideAll h' (frs (envOfC qual scope s.heap.objs.size f cd :: outer) ++ [e])) (outer := outer) (L := s.heap.objs.size) (a0 := .ref t) I.ok.frames
    (PySem.W.funFrames_hide hF fun env z a ha => List.mem_append_left _ (List.mem_filterMap.mpr ⟨env, z, ha⟩)) rfl he (fun b o z => PySem.W.of_hideAll _ z) (PySem.W.hideAll_none _ (by simp)) rfl rfl rfl fun h2 L => ?_
  obtain ⟨x1, x2, x3⟩ := left_fly (P := P) (w := w) (base := base) (outer := outer) (s := s) (H := H) (H1 := H1) (as := [e]) rfl (fun a ha => by rw [List.mem_singleton.mp ha]; exact ⟨hes, he1⟩) (by simp) I.stkFree (fun b hb => List.mem_cons_of_mem _ hb) hnw hu hok L hF
  exact ⟨e, cls, H1, rfl, I.os, I.bare, x1, x2, x3, q⟩

end

theorem Inv.afterX {X : Cx} {pins : List (Addr × Obj)} {σ : St} {H : Hp} {s s' : Shared} {E : XK} {e : Value} (I : Inv X pins σ H s) (h : CXx X.prog X.w X.stack H s E e s') :
    ∃ a cls H', e = .ref a ∧ Inv X pins σ H' s' ∧ Fly s.heap H' s'.heap a cls ∧ E cls (some a) H' := by
  refine L2.put_away fun G'1562x2 h'1562x2 => ?_
  obtain ⟨a, cls, H', rfl, os, bare, un, hok, fl, q⟩ := h
  refine h'1562x2 ?_
  exact ⟨a, cls, H', rfl, I.call' (ch := []) os un hok bare (fun b z => absurd z (by simp)), fl, q⟩
end L2
namespace L2
open PySem PySem.Spec PyProof.Rows

abbrev VE : List Value := [.type "ValueError", .type "Exception", .type "BaseException", .type "object"]
structure OX (K : PySem.W.Frag) (mg : Str → Option Value) (x : Str) (C : Addr) (bm : List Value) : Prop where
  bound : mg x = some (.ref C)
  obj : ∃ N nm q bs hdct sn sub ab col dd k0 k1 k2 k3 k5, K.lookup C = some (excClassObj nm q C N bs bm hdct sn sub ab col dd k0 k1 k2 k3 k5 "ValueError.__new__") ∧ PySem.W.nsOkIn K N = true ∧ PySem.W.nsIn K N "__init__" = some none
  tail : PySem.W.tailIn K VE bm = true
theorem ox_mk {K : PySem.W.Frag} {h : Heap} {mg : Str → Option Value} {x : Str} {C N : Addr} {nm q : Str} {bs bm : List Value} {hdct : Bool} {sn : List Str} {sub : List Value} {ab : Bool} {col : Option Bool} {dd : Option Addr} {k0 k1 k2 k3 k5 : Option Value}
    (X : K.In h) (G : h.Ns mainGlobals mg) (a : PySem.W.nsIn K mainGlobals x = some (some (.ref C))) (l : K.lookup C = some (excClassObj nm q C N bs bm hdct sn sub ab col dd k0 k1 k2 k3 k5 "ValueError.__new__"))
    (e : PySem.W.excIn K C VE "ValueError.__new__" = true) : OX K mg x C bm := by
  unfold PySem.W.excIn at e
  rw [l] at e
  simp only [Bool.and_eq_true, beq_iff_eq, Bool.not_eq_true'] at e
  refine L2.put_away fun G'1571x6 h'1571x6 => ?_
  obtain ⟨⟨⟨⟨⟨_, _⟩, _⟩, ht⟩, hok⟩, hni⟩ := e
  refine h'1571x6 ?_
  exact ⟨PySem.W.mg_of X G a, ⟨N, nm, q, bs, hdct, sn, sub, ab, col, dd, k0, k1, k2, k3, k5, l, hok, hni⟩, ht⟩

noncomputable def Throws (X : Cx) (E : XK) : Prop := ∀ (pins : List (Addr × Obj)) (σ : St) (H : Hp) (s : Shared) (e : Addr) (cls : Value) (vs : List Value) (h' : Heap), Inv X pins σ H s → Heap.MadeExcOf s.heap h' e cls vs → E cls (some e) H → X.xe (.ref e) { s with heap := h' }
theorem throwX {P : Program} {w : World} {K : PySem.W.Frag} {mg : Str → Option Value} {base : Heap} {N : List Str} {qual : Str} {scope : Scope} {f : Addr} {cd : Value} {A : Around} {outer : List Env} {s : Shared} {H : Hp} {E : XK} :
    Throws (cxOf (CXx P w) P w K mg base N qual scope f cd A outer s H E) E := fun _ _ _ _ _ _ _ _ I hx q => thrown_made I hx q

noncomputable def tRaise (C : Addr) (E : XK) (t : TA) : TS := fun _ σ H => t σ H fun vs H1 => vs.length ≤ 1000 ∧ ∀ a, H1 a = none → E (.ref C) (some a) H1
theorem ps_raise {X : Cx} {x : Str} {C : Addr} {bm : List Value} {np cpos pos : Pos} {e₀ : Expr} {rest : List Expr} {t : TA} {E : XK} (O : OX X.K X.mg x C bm) (hc : X.calm = true) (T : Throws X E) (ha : PA X (e₀ :: rest) t) (hg : Gl X x := by rfl)
    (hdb : (x == ("__debug__" : Str)) = false := by decide) (he : starEach (e₀ :: rest) X.env = (false, eval e₀ X.env) :: starEach rest X.env := by rfl) (hpl : (backTo cpos (starEach rest X.env)).any (·.1) = false := by rfl) :
    PS X (.Raise (some (.Call (.Name x np) (e₀ :: rest) [] cpos)) none pos) (tRaise C E t) := by
  intro pins s σ H D I h
  refine L2.put_away fun G'1575x4 h'1575x4 => ?_
  obtain ⟨N, nm, q, bs, hdct, sn, sub, ab, col, dd, k0, k1, k2, k3, k5, lk, hok, hni⟩ := O.obj
  refine h'1575x4 ?_
  have KB : X.K.In X.base := I.mod.kin
  refine wpAny_Raise_call_subT (C := C) (nm := nm) (q := q) (N := N) (bs := bs) (bm := bm) (hdct := hdct) (sn := sn) (sub := sub) (ab := ab) (col := col) (dd := dd) (k0 := k0) (k1 := k1) (k2 := k2) (k3 := k3) (k5 := k5)
    PySem.F.excBase_ValueError (mN := X.base.nsMap N) ((PySem.W.tail_of_in I.kIn O.tail).hasType rfl) (I.ok.hd hc) (by rw [he]; show (false || (backTo cpos (starEach rest X.env)).any (·.1)) = false; rw [hpl]; rfl) (PySem.W.nsMap_none_of_in KB hok hni) (ld_glob I hg O.bound ⟨rfl, ?_⟩ hdb)
  have h1 := ha cpos pins s σ H _ I h
  rw [he] at h1 ⊢
  refine Calls.evalArgs_plain (wpAny_mono h1 (fun us s₂ ⟨vs, H1, I1, r, hl, q⟩ => ⟨rfl, ?_, I1.kIn _ _ lk, ?_, PySem.W.tail_of_in I1.kIn O.tail, fun h' e hm => ?_⟩) fun _ _ y => y)
  · rw [← r.length]; exact Nat.le_of_lt (small1000 hl)
  · exact (Heap.Ns.of_isNs (PySem.W.isNs_of_in KB hok)).keeps I1.bk
  · refine T pins σ H1 s₂ e _ _ h' I1 hm (q e ?_)
    cases z : H1 e with
    | none => rfl
    | some o =>
      obtain ⟨o', e1⟩ := ObjOk.there (I1.hok e o z)
      rw [hm.new] at e1; cases e1

noncomputable def HasX (P : Program) (w : World) (K : PySem.W.Frag) (mg : Str → Option Value) (base : Heap) (k : Nat) (x : Str) (ps : List Str) (sp : Sp) : Prop :=
  ∃ f fd, FnOk P w K mg base (CXx P w) k f fd ps sp ∧ (∀ us : List Value, us.length = ps.length → bindArgs fd ⟨us, []⟩ = pure (ps.zip us)) ∧ PySem.W.keepIn K (.ref f) = true ∧ mg x = some (.ref f)
theorem HasX.mono {P : Program} {w : World} {K : PySem.W.Frag} {mg : Str → Option Value} {base : Heap} {j k : Nat} {x : Str} {ps : List Str} {sp : Sp} (h : HasX P w K mg base j x ps sp) (hk : j ≤ k) : HasX P w K mg base k x ps sp :=
  let ⟨f, fd, F, b⟩ := h
  ⟨f, fd, F.mono hk, b⟩
theorem HasX.imp {P : Program} {w : World} {K : PySem.W.Frag} {mg : Str → Option Value} {base : Heap} {k : Nat} {x : Str} {ps : List Str} {sp sp' : Sp} (h : HasX P w K mg base k x ps sp) (i : ∀ vs H Q E, sp' vs H Q E → sp vs H Q E) : HasX P w K mg base k x ps sp' :=
  let ⟨f, fd, F, b⟩ := h
  ⟨f, fd, F.imp i, b⟩
theorem pe_defX {X : Cx} {k : Nat} {x : Str} {ps : List Str} {sp : Sp} {p pos : Pos} {e : Expr} {es : List Expr} {t : TA} {E : XK} (h : HasX X.prog X.w X.K X.mg X.base k x ps sp) (hr : Room k X.A) (hx : Passes (CXx X.prog X.w) X E) (ha : PA X (e :: es) t) (hg : Gl X x := by rfl)
    (hdb : (x == ("__debug__" : Str)) = false := by decide) (he : starEach (e :: es) X.env = (false, eval e X.env) :: starEach es X.env := by rfl) (hpl : (backTo pos (starEach es X.env)).any (·.1) = false := by rfl) :
    PE X (.Call (.Name x p) (e :: es) [] pos) (tCall sp [] E t) := by
  refine L2.put_away fun G'1582x3 h'1582x3 => ?_
  obtain ⟨f, fd, F, hb, hk, hm⟩ := h
  refine h'1582x3 ?_
  exact pe_call F hr hg hm hk (.all hb) .nil hx ha hdb he hpl
end L2
namespace L2
open PySem PySem.Spec PyProof.Rows

section
variable {X : Cx} {pins : List (Addr × Obj)} {σ : St} {H : Hp} {s : Shared}
noncomputable def Ap (X : Cx) (pins : List (Addr × Obj)) (b : Addr) : Prop := X.s₀.heap.get? b = none ∧ b ≠ X.env.locals ∧ (∀ x c, X.env.cells.lookup x = some c → c ≠ b) ∧ b ∉ X.fs ∧ ∀ p ∈ X.pn ++ pins, p.1 ≠ b
theorem Inv.ap (I : Inv X pins σ H s) (hx : X.ex = []) {b : Addr} (hb : s.heap.get? b = none) : Ap X pins b := by
  have no : ∀ {c : Addr}, (∃ o, s.heap.get? c = some o) → c ≠ b := fun {c} ⟨o, e⟩ z => by rw [z, hb] at e; cases e
  refine ⟨?_, (no (let ⟨_, ⟨o, _, _, e, _⟩, _⟩ := I.loc; ⟨o, e⟩)).symm, fun x c e => no (let ⟨_, o, q, _⟩ := I.cell x c e; ⟨o, q⟩), fun z => no (let ⟨_, o, e, _⟩ := I.funs.mem z; ⟨o, e⟩) rfl, fun p hp => no ⟨_, (I.pin p hp).1⟩⟩
  cases q : X.s₀.heap.get? b with
  | none => rfl
  | some o => exact absurd rfl (no (I.base.there b o q (by rw [hx]; simp)))
theorem Inv.exs {as : List Addr} (I : Inv X pins σ H s) (has : ∀ a ∈ as, Ap X pins a) : Inv { X with ex := X.ex ++ as } pins σ H s := by
  have ok := I.ok
  refine ⟨⟨ok.mod, ok.kind, ok.glob, ok.blt, ok.above, ok.inj, ok.has, ok.cab, ok.hd, ok.frames, ok.stk, fun b hb => ?_, ok.bs, ok.bsz, fun b o e hb => ?_, fun b hb => ?_, ok.funs, ok.frf⟩, I.os, I.bare,
    I.base.mono (fun _ h => h) (fun b hb => List.mem_append_left _ hb), I.loc, I.cell, I.free, I.freeC, I.pin, I.hok, I.len⟩
  · exact (List.mem_append.mp hb).elim (ok.exf b) fun z => ⟨(has b z).2.1, (has b z).2.2.1⟩
  · refine (List.mem_append.mp hb).elim (ok.noex b o e) fun z => ?_
    have := (ok.bs b o e).1
    rw [(has b z).1] at this; cases this
  · exact (List.mem_append.mp hb).elim (ok.exfs b) fun z => (has b z).2.2.2.1
theorem Inv.unexs {as : List Addr} (I : Inv { X with ex := X.ex ++ as } pins σ H s) (ok : X.Ok) (has : ∀ a ∈ as, X.s₀.heap.get? a = none) : Inv X pins σ H s := by
  have ne : ∀ b o, X.s₀.heap.get? b = some o → b ∉ X.ex → b ∉ X.ex ++ as := fun b o e hx hb => (List.mem_append.mp hb).elim hx fun z => by rw [has b z] at e; cases e
  exact ⟨ok, I.os, I.bare, ⟨fun b o e n hb hx => I.base.keep b o e n hb (ne b o e hx), fun b o e n hb hx => I.base.slot b o e n hb (ne b o e hx), fun b o e n hx => I.base.free b o e n (ne b o e hx), fun b o e hx => I.base.there b o e (ne b o e hx),
    I.base.tups, I.base.frzs, I.base.tbls⟩, I.loc, I.cell, I.free, I.freeC, I.pin, I.hok, I.len⟩

theorem Inv.fly {as : List Addr} {h' : Heap} (I : Inv X pins σ H s) (has : ∀ a ∈ as, Ap X pins a ∧ H a = none)
    (keep : ∀ b o, b ∉ frs X.stack ++ as → s.heap.get? b = some o → h'.get? b = some o) (slot : ∀ b o, b ∈ frs X.stack → s.heap.get? b = some o → ∃ sl, h'.get? b = some { o with slots := sl }) : Inv X pins σ H { s with heap := h' } := by
  have u : Un (frs X.stack) as H H s.heap h' := ⟨fun b o q _ hb hx => keep b o (fun z => (List.mem_append.mp z).elim hb hx) q, fun b o q _ hb _ => slot b o hb q, fun _ _ _ n _ => n, fun b o q hx => by
      by_cases hb : b ∈ frs X.stack
      · obtain ⟨sl, e⟩ := slot b o hb q; exact ⟨_, e⟩
      · exact ⟨o, keep b o (fun z => (List.mem_append.mp z).elim hb hx) q⟩, fun _ _ e => e, fun _ _ _ e => e, fun _ ps e => ⟨#[], by rw [e]; simp⟩⟩
  have hok : HOk X.prog X.w H h' := I.hok.but _ (fun a z => (List.mem_append.mp z).elim (I.stkFree a) fun y => (has a y).2) keep
  have J := (I.exs fun a z => (has a z).1).call (g' := s.gens) (t' := s.toks) (d' := s.drawn) (ch := as) u hok I.bare fun b hb => ⟨.inl (List.mem_append_right _ hb), (has b hb).1.2.1, (has b hb).1.2.2.1, (has b hb).1.2.2.2.2⟩
  exact J.unexs I.ok fun a z => (has a z).1.1

noncomputable def FlyAt (X : Cx) (pins : List (Addr × Obj)) (H : Hp) (h : Heap) (a : Addr) (cls : Value) : Prop :=
  ∃ oe vs T oT ts a0, h.get? a = some oe ∧ (oe.cls = cls ∧ vs[0]? = some a0) ∧ oe.data = .fields vs ∧ vs[1]? = some (.ref T) ∧ T ≠ a ∧ h.get? T = some oT ∧ oT.data = .fields ts ∧ ts[3]? = some .none ∧ ∀ b ∈ [a, T], Ap X pins b ∧ H b = none
noncomputable def XE (X : Cx) (pins : List (Addr × Obj)) (σ : St) (E : XK) (e : Value) (s' : Shared) : Prop := ∃ a cls H', e = .ref a ∧ Inv X pins σ H' s' ∧ FlyAt X pins H' s'.heap a cls ∧ E cls (some a) H'
theorem Inv.afterXE {s' : Shared} {E : XK} {e : Value} (hx : X.ex = []) (I : Inv X pins σ H s) (h : CXx X.prog X.w X.stack H s E e s') : XE X pins σ E e s' := by
  refine L2.put_away fun G'1597x1 h'1597x1 => ?_
  obtain ⟨a, cls, H', rfl, I', fl, q⟩ := Inv.afterX I h
  refine h'1597x1 ?_
  refine L2.put_away fun G'1597x2 h'1597x2 => ?_
  obtain ⟨oe, vs, T, oT, ts, a0, he, hc, hd, hv1, hTe, hT, hdT, h3, hsT, hHT⟩ := fl.obj
  refine h'1597x2 ?_
  refine ⟨a, cls, H', rfl, I', ⟨oe, vs, T, oT, ts, a0, he, hc, hd, hv1, hTe, hT, hdT, h3, fun b hb => ?_⟩, q⟩
  rcases List.mem_cons.mp hb with rfl | hb
  · exact ⟨I.ap hx fl.new, fl.free⟩
  · rw [List.mem_singleton.mp hb]; exact ⟨I.ap hx hsT, hHT⟩

theorem FlyAt.held {a T : Addr} {cls a0 : Value} {h5 : Heap} (hx : X.ex = []) (I : Inv X pins σ H s) (has : ∀ b ∈ [a, T], Ap X pins b ∧ H b = none)
    (hfl : Heap.FlyingW (PySem.W.hideAll s.heap (frs X.stack ++ [a, T])) X.stack a cls a0 h5) (sm : s.heap.UpToSlots h5) : Inv X pins σ H { s with heap := h5 } ∧ FlyAt X pins H h5 a cls := by
  have keep : ∀ b o, b ∉ frs X.stack ++ [a, T] → s.heap.get? b = some o → h5.get? b = some o := fun b o hb q => hfl.1 b o (PySem.W.hideAll_get _ q hb)
  have slot : ∀ b o, b ∈ frs X.stack → s.heap.get? b = some o → ∃ sl, h5.get? b = some { o with slots := sl } := fun b o hb q => by
    refine L2.put_away fun G'1598x4 h'1598x4 => ?_
    obtain ⟨_, o', ho', hn⟩ := I.stack.mem hb
    refine h'1598x4 ?_
    rw [q] at ho'; cases ho'
    exact sm b o q hn
  have I' := I.fly (as := [a, T]) has keep slot
  refine L2.put_away fun G'1598x8 h'1598x8 => ?_
  obtain ⟨_, _, k2, oe, vs, T', oT, ts, he, hc, hd, hv1, hnT, hTe, hT, hdT, h3⟩ := hfl
  refine h'1598x8 ?_
  have hTf : T' ∉ frs X.stack := fun z => by
    refine L2.put_away fun G'1598x10 h'1598x10 => ?_
    obtain ⟨_, o, ho, hn⟩ := k2.mem z
    refine h'1598x10 ?_
    rw [hT] at ho; cases ho; exact hn _ hdT
  have hT' : Ap X pins T' ∧ H T' = none := by
    cases q : s.heap.get? T' with
    | none =>
      refine ⟨I.ap hx q, ?_⟩
      cases z : H T' with
      | none => rfl
      | some o =>
        obtain ⟨o', e⟩ := ObjOk.there (I.hok T' o z)
        rw [q] at e; cases e
    | some o =>
      refine has T' ?_
      by_cases z : T' ∈ frs X.stack ++ [a, T]
      · exact (List.mem_append.mp z).elim (fun y => absurd y hTf) id
      · have := PySem.W.hideAll_get (h := s.heap) _ q z
        rw [hnT] at this; cases this
  refine ⟨I', oe, vs, T', oT, ts, a0, he, hc, hd, hv1, hTe, hT, hdT, h3, fun b hb => ?_⟩
  rcases List.mem_cons.mp hb with rfl | hb
  · exact has _ (by simp)
  · rw [List.mem_singleton.mp hb]; exact hT'

theorem seen {M : Model} {a : Addr} {cls : Value} {Q : Shared → Prop} {A' : Around} {E1 E2 : Value → Shared → Prop} (hx : X.ex = []) (hst : X.stack = X.env :: X.outer) (hf : X.env.frame = some X.env.locals) (I : Inv X pins σ H s) (fl : FlyAt X pins H s.heap a cls)
    (h : ∀ h5, Inv X pins σ H { s with heap := h5 } → FlyAt X pins H h5 a cls → Q { s with heap := h5 }) :
    wpAny M X.A (noteFrame (.ref a) X.env) (fun _ s2 => wpAny M A' (setFlight (.ref a) none) (fun _ s3 => Q s3) E1 s2) E2 s := by
  refine L2.put_away fun G'1599x3 h'1599x3 => ?_
  obtain ⟨oe, vs, T, oT, ts, a0, he, hc, hd, hv1, hTe, hT, hdT, h3, has⟩ := fl
  refine h'1599x3 ?_
  have hFB : s.heap.FunFrames (PySem.W.hideAll s.heap (frs X.stack ++ [a, T])) X.stack := PySem.W.funFrames_hide I.stack fun env z b hb => List.mem_append_left _ (List.mem_filterMap.mpr ⟨env, z, hb⟩)
  have hfl : Heap.FlyingW (PySem.W.hideAll s.heap (frs X.stack ++ [a, T])) X.stack a cls a0 s.heap :=
    ⟨fun b o z => PySem.W.of_hideAll _ z, PySem.W.hideAll_none _ (by simp), hFB, oe, vs, T, oT, ts, he, hc, hd, hv1, PySem.W.hideAll_none _ (by simp), hTe, hT, hdT, h3⟩
  have hfr := I.ok.frames
  refine wpAny_looks_onW (base := PySem.W.hideAll s.heap (frs X.stack ++ [a, T])) (outer := X.outer) (cls := cls) (a0 := a0) (by rw [hfr, hst]) hf (by rw [← hst]; exact hfl) fun h4 hheld sm4 => ?_
  refine wpAny_landsW hheld fun h5 hfl5 sm5 => ?_
  rw [← hst] at hfl5
  obtain ⟨I5, F5⟩ := FlyAt.held hx I has hfl5 (sm4.trans sm5)
  exact h h5 I5 F5
theorem seen2 {M : Model} {a : Addr} {cls : Value} {Q : Unit → Shared → Prop} {A' : Around} {E1 : Value → Shared → Prop} (hx : X.ex = []) (I : Inv X pins σ H s) (fl : FlyAt X pins H s.heap a cls)
    (h : ∀ h5, Inv X pins σ H { s with heap := h5 } → FlyAt X pins H h5 a cls → Q () { s with heap := h5 }) : wpAny M A' (setFlight (.ref a) none) Q E1 s := by
  refine L2.put_away fun G'1600x2 h'1600x2 => ?_
  obtain ⟨oe, vs, T, oT, ts, a0, he, hc, hd, hv1, hTe, hT, hdT, h3, has⟩ := fl
  refine h'1600x2 ?_
  have hFB : s.heap.FunFrames (PySem.W.hideAll s.heap (frs X.stack ++ [a, T])) X.stack := PySem.W.funFrames_hide I.stack fun env z b hb => List.mem_append_left _ (List.mem_filterMap.mpr ⟨env, z, hb⟩)
  have hfl : Heap.FlyingW (PySem.W.hideAll s.heap (frs X.stack ++ [a, T])) X.stack a cls a0 s.heap :=
    ⟨fun b o z => PySem.W.of_hideAll _ z, PySem.W.hideAll_none _ (by simp), hFB, oe, vs, T, oT, ts, he, hc, hd, hv1, PySem.W.hideAll_none _ (by simp), hTe, hT, hdT, h3⟩
  refine lands_againW hfl fun h5 hfl5 sm5 => ?_
  obtain ⟨I5, F5⟩ := FlyAt.held hx I has hfl5 sm5
  exact h h5 I5 F5

noncomputable def excO (a : Addr) (cls : Value) : HO := .ext fun h => ∃ o, h.get? a = some o ∧ o.cls = cls
theorem Inv.track {a : Addr} {cls : Value} (I : Inv X pins σ H s) (fl : FlyAt X pins H s.heap a cls) : Inv X pins σ (upd H a (excO a cls)) s := by
  refine L2.put_away fun G'1602x1 h'1602x1 => ?_
  obtain ⟨oe, vs, T, oT, ts, a0, he, ⟨hc, _⟩, _, _, _, _, _, _, has⟩ := fl
  refine h'1602x1 ?_
  obtain ⟨ap, hn⟩ := has a (by simp)
  have u : Un (frs X.stack) [a] H (upd H a (excO a cls)) s.heap s.heap := ⟨fun b o q _ _ _ => q, fun b o q _ _ _ => ⟨o.slots, q⟩, fun b o _ n hb => by rw [upd_ne (fun z => hb (by simp [z]))]; exact n, fun b o q _ => ⟨o, q⟩,
    fun b xs e => by rw [upd_ne (ne_of_none e hn)]; exact e, fun b o x e => by rw [upd_ne (ne_of_none e hn)]; exact e, fun b ps e => ⟨#[], by rw [upd_ne (ne_of_none e hn), e]; simp⟩⟩
  have hok : HOk X.prog X.w (upd H a (excO a cls)) s.heap := fun b o e => by
    by_cases z : b = a
    · subst z
      rw [upd_same] at e
      cases e
      exact ⟨⟨oe, he, hc⟩, ⟨oe, he⟩, fun h1 h2 ⟨o, e1, c1⟩ k => ⟨o, k o e1, c1⟩⟩
    · rw [upd_ne z] at e
      exact (I.hok b o e).stay (fun c v _ q => q) (fun c q => by
        rw [upd_ne (ne_of_none q hn)]; exact q) fun c xs q => by rw [upd_ne (ne_of_none q hn)]; exact q
  have J := (I.exs (as := [a]) fun b hb => by rw [List.mem_singleton.mp hb]; exact ap).call (g' := s.gens) (t' := s.toks) (d' := s.drawn) (ch := [a]) u hok I.bare fun b hb => by
    rw [List.mem_singleton.mp hb]
    exact ⟨.inl (List.mem_append_right _ (by simp)), ap.2.1, ap.2.2.1, ap.2.2.2.2⟩
  exact J.unexs I.ok fun b hb => by rw [List.mem_singleton.mp hb]; exact ap.1
end
end L2
namespace L2
open PySem PySem.Spec PyProof.Rows

theorem nsFind_eraseIdx {es : Array DictEntry} {i : Nat} {name y : Str} (hi : es.findIdx? (·.key.isStr name) = some i) (hy : y ≠ name) : nsFind (es.eraseIdxIfInBounds i) y = nsFind es y := by
  obtain ⟨l⟩ := es
  have h1 := Array.findIdx?_eq_some_iff_getElem.mp hi
  refine L2.put_away fun G'1607x3 h'1607x3 => ?_
  obtain ⟨hlt, hp, _⟩ := h1
  refine h'1607x3 ?_
  unfold nsFind findBy
  have e : (({ toList := l } : Array DictEntry).eraseIdxIfInBounds i) = { toList := l.eraseIdx i } := by
    unfold Array.eraseIdxIfInBounds
    rw [dif_pos hlt]
    simp
  rw [e, ← Array.find?_toList, ← Array.find?_toList, find_eraseIdx]
  intro a ha
  have hlt' : i < l.length := by simpa using hlt
  rw [List.getElem?_eq_getElem hlt'] at ha
  cases ha
  have hp' : l[i].key.isStr name = true := by simpa using hp
  cases q : l[i].key.isStr y with
  | false => exact q
  | true =>
    exfalso
    revert hp' q
    cases l[i].key <;> simp [Value.isStr]
    intro a b
    exact hy (b.symm.trans a)

section
variable {M : Model} {A : Around} {E : Value → Shared → Prop} {s : Shared}
theorem nsDel_keeps {a : Addr} {m : Str → Option Value} {name : Str} {Q : Bool → Shared → Prop} (hn : s.heap.Ns a m)
    (hQ : ∀ h' m', h'.Ns a m' → (∀ y, y ≠ name → m' y = m y) → Heap.SameBut a s.heap h' → Q (m name).isSome { s with heap := h' }) : wpAny M A (nsDel a name) Q E s := by
  refine L2.put_away fun G'1610x2 h'1610x2 => ?_
  obtain ⟨o, es, ep, ho, hd, hk, hm⟩ := id hn
  refine h'1610x2 ?_
  have hany : es.any (·.refKey) = false := by
    rw [Array.any_eq_false']; intro e he; obtain ⟨n, t, h⟩ := hk e he; simp [DictEntry.refKey, h]
  have hsome : (m name).isSome = es.any (·.key.isStr name) := by
    rw [← hm name]; simp only [nsFind, findBy, Option.isSome_map]
    rw [Bool.eq_iff_iff]; simp only [Array.find?_isSome, Array.any_eq_true]
    constructor
    · rintro ⟨x, hx, hp⟩; obtain ⟨i, hi, rfl⟩ := Array.mem_iff_getElem.mp hx; exact ⟨i, hi, hp⟩
    · rintro ⟨i, hi, hp⟩; exact ⟨_, Array.getElem_mem hi, hp⟩
  have hhas : nsHas name o = pure (es.any (·.key.isStr name)) := by
    rw [nsHas_eq]; unfold nsHasByArray; rw [hd]
    show (if (es.any fun x => x.key.isStr name) = true then _ else _) = _
    generalize (es.any fun x => x.key.isStr name) = b
    cases b <;> simp [hany]
  unfold nsDel
  refine wpAny_bind (wpAny_loadPart ho ?_)
  rw [hhas]
  refine wpAny_bind (wpAny_pure ?_)
  rw [← hsome]
  cases hmn : (m name).isSome
  · have := hQ s.heap m hn (fun _ _ => rfl) (.refl ..)
    rw [hmn] at this
    exact wpAny_pure this
  · refine wpAny_bind (wpAny_updatePart ho (wpAny_pure ?_))
    have key : ∃ m', (s.heap.update a (Obj.dropName name)).Ns a m' ∧ ∀ y, y ≠ name → m' y = m y := by
      refine L2.put_away fun G'1610x27 h'1610x27 => ?_
      obtain ⟨cl, d, dt, sl⟩ := o
      refine h'1610x27 ?_
      subst hd
      cases hi : es.findIdx? (·.key.isStr name) with
      | some i => exact ⟨_, ⟨_, _, ep + 1, Heap.get?_update_self _ ho (by simp only [Obj.dropName_eq, Obj.dropNameByArray, hi] <;> rfl), (by simp only [Obj.dropName_eq, Obj.dropNameByArray, hi] <;> rfl), hk.erase i, fun _ => rfl⟩, fun y hy => (nsFind_eraseIdx hi hy).trans (hm y)⟩
      | none => exact ⟨_, ⟨_, _, ep, Heap.get?_update_self _ ho (by simp only [Obj.dropName_eq, Obj.dropNameByArray, hi] <;> rfl), (by simp only [Obj.dropName_eq, Obj.dropNameByArray, hi] <;> rfl), hk, fun _ => rfl⟩, fun y _ => hm y⟩
    refine L2.put_away fun G'1610x32 h'1610x32 => ?_
    obtain ⟨m', hm', hy⟩ := key
    refine h'1610x32 ?_
    have := hQ _ m' hm' hy (Heap.SameBut.update ..)
    rw [hmn] at this
    exact this
end

theorem name_goes {X : Cx} {pins : List (Addr × Obj)} {σ : St} {H : Hp} {s : Shared} {A : Around} {E : Value → Shared → Prop} {i : Nat} {n : Str} {pos : Pos} {Q : Unit → Shared → Prop} (I : Inv X pins σ H s) (hN : X.N.Nodup) (hi : X.N[i]? = some n) (hl : X.env.scope.names.lookup n = some .local)
    (h : ∀ s', Inv X pins (σ.set i none) H s' → Q () s') : wpAny (model X.prog X.w) A (do bindName X.env n .none; unbindBehindTheSuite X.env n pos) Q E s := by
  have hp : (X.env.scope.kind == .class || (X.env.scope.kind == .module && X.env.locals != X.env.globals)) = false := by rw [I.ok.kind]; rfl
  have hkl : X.env.kindOf n = some .local := hl
  refine wpAny_bind (wpAny_bindName (store_ok (v := .non) (u := .none) I hN hi (.inl hl) rfl (fun s1 I1 => ?_) (.inr hl)))
  unfold unbindBehindTheSuite
  refine wpAny_onRaise ?_
  unfold unbindName
  refine wpAny_bind (wpAny_point (wpAny_bind ?_))
  unfold deleteName
  simp only [hkl, hp]
  rw [if_neg (by decide)]
  refine L2.put_away fun G'1612x12 h'1612x12 => ?_
  obtain ⟨m, hn, hlk⟩ := id I1.loc
  refine h'1612x12 ?_
  refine wpAny_bind (nsDel_keeps hn fun h₂ m₂ hn₂ hy hs₂ => ?_)
  have hmn : (m n).isSome = true := by
    have hiσ : i < σ.length := by rw [I.len]; exact (List.getElem?_eq_some_iff.mp hi).1
    refine L2.put_away fun G'1612x16 h'1612x16 => ?_
    obtain ⟨u, _, l⟩ := hlk i n .non hi (by rw [List.getElem?_set_self hiσ]) (.inl hl)
    refine h'1612x16 ?_
    rcases l with ⟨_, e⟩ | ⟨k, _⟩
    · rw [e]; rfl
    · rw [hkl] at k
      rcases k with k | k <;> cases k
  rw [hmn]
  simp only [if_true, Bool.not_true, Bool.false_eq_true, if_false]
  refine wpAny_pure (wpAny_point (h _ ?_))
  refine L2.put_away fun G'1612x24 h'1612x24 => ?_
  obtain ⟨hp1, g1, d1, t1, os1⟩ := s1
  refine h'1612x24 ?_
  have hok : HOk X.prog X.w H h₂ := I1.hok.but [X.env.locals] (fun a ha => by rw [List.mem_singleton.mp ha]; exact I1.free) fun b o hb q => (hs₂.2 b (fun z => hb (by simp [z]))).trans q
  have oth : ∀ b, b ≠ X.env.locals → h₂.get? b = hp1.get? b := fun b hb => hs₂.2 b hb
  have neL : ∀ b o, X.s₀.heap.get? b = some o → b ≠ X.env.locals := fun b o e => Nat.ne_of_lt (Nat.lt_of_lt_of_le (Heap.lt_size e) I1.ok.above)
  have cellK : ∀ x c, X.env.cells.lookup x = some c → ∀ v, hp1.IsCell c v → h₂.IsCell c v := fun x c e v ⟨o, ho, hd⟩ => ⟨o, (oth c (I1.cne x c e)).trans ho, hd⟩
  refine ⟨I1.ok, I1.os, I1.bare, ⟨fun b o e n hb hx => (oth b (neL b o e)).trans (I1.base.keep b o e n hb hx), fun b o e n hb hx => ?_, I1.base.free, fun b o e hx => ?_, I1.base.tups, I1.base.frzs, I1.base.tbls⟩, ⟨m₂, hn₂, fun j y v e1 e2 e3 => ?_⟩,
    fun x c e => ?_, I1.free, I1.freeC, fun p hp => ?_, hok, by rw [List.length_set]; exact I.len⟩
  · obtain ⟨sl, q⟩ := I1.base.slot b o e n hb hx
    exact ⟨sl, (oth b (neL b o e)).trans q⟩
  · obtain ⟨o', q⟩ := I1.base.there b o e hx
    exact ⟨o', (oth b (neL b o e)).trans q⟩
  · have hji : j ≠ i := fun z => by
      subst z
      rw [List.getElem?_set] at e2
      split at e2
      · split at e2 <;> cases e2
      · rename_i z; exact z rfl
    have hyn : y ≠ n := fun z => hji (nodup_ix hN e1 (z ▸ hi))
    obtain ⟨u, r, l⟩ := hlk j y v e1 (by rw [List.getElem?_set_ne (Ne.symm hji)] at e2 ⊢; exact e2) e3
    refine ⟨u, r, ?_⟩
    rcases l with ⟨k, e⟩ | ⟨k, c, e, z⟩
    · exact .inl ⟨k, (hy y hyn).trans e⟩
    · exact .inr ⟨k, c, e, cellK y c e _ z⟩
  · obtain ⟨v, z⟩ := I1.cell x c e
    exact ⟨v, cellK x c e v z⟩
  · refine L2.put_away fun G'1612x49 h'1612x49 => ?_
    obtain ⟨e, n', ne, nf, d⟩ := I1.pin p hp
    refine h'1612x49 ?_
    exact ⟨(oth p.1 ne).trans e, n', ne, nf, d⟩

noncomputable abbrev Cx.suite (X : Cx) (a : Addr) : Cx := { X with A := X.A.mark (some (.ref a)), calm := false, xe := fun _ _ => False }
section
variable {X : Cx} {pins : List (Addr × Obj)} {σ : St} {H : Hp} {s : Shared} {a : Addr}
theorem Inv.suite (I : Inv X pins σ H s) (a : Addr) : Inv (X.suite a) pins σ H s :=
  have ok := I.ok
  ⟨⟨ok.mod, ok.kind, ok.glob, ok.blt, ok.above, ok.inj, ok.has, ok.cab, fun z => (Bool.false_ne_true z).elim, ok.frames, ok.stk, ok.exf, ok.bs, ok.bsz, ok.noex, ok.exfs, ok.funs, ok.frf⟩, I.os, I.bare, I.base, I.loc, I.cell, I.free, I.freeC, I.pin, I.hok, I.len⟩
theorem Inv.unsuite (I : Inv (X.suite a) pins σ H s) (ok : X.Ok) : Inv X pins σ H s := ⟨ok, I.os, I.bare, I.base, I.loc, I.cell, I.free, I.freeC, I.pin, I.hok, I.len⟩
theorem SP.unsuite {D : Ends} {f : Flow} (h : SP (X.suite a) pins D f s) (ok : X.Ok) : SP X pins D f s := by
  cases f with
  | next => obtain ⟨σ', H', I, q⟩ := h; exact ⟨σ', H', I.unsuite ok, q⟩
  | brk => obtain ⟨σ', H', I, q⟩ := h; exact ⟨σ', H', I.unsuite ok, q⟩
  | cont => obtain ⟨σ', H', I, q⟩ := h; exact ⟨σ', H', I.unsuite ok, q⟩
  | ret u => obtain ⟨v, σ', H', I, r, q⟩ := h; exact ⟨v, σ', H', I.unsuite ok, r, q⟩
end
end L2
namespace L2
open PySem PySem.Spec PyProof.Rows

section
variable {M : Model} {A : Around} {E : Value → Shared → Prop}
variable {nm q nm' q' : Str} {C N C' N' : Addr} {bs bm bs' bm' : List Value} {hdct hdct' : Bool} {sn sn' : List Str} {sub sub' : List Value} {ab ab' : Bool} {col col' : Option Bool} {dd dd' : Option Addr} {k0 k1 k2 k3 k5 l0 l1 l2 l3 l5 : Option Value} {newId newId' : String}
theorem excMatches_own {h : Heap} {g : Array GenState} {d : Drawn} {t : Nat} {os : OsState} {e : Addr} {oe : Obj} {Q : Bool → Shared → Prop}
    (hC : h.get? C = some (excClassObj nm q C N bs bm hdct sn sub ab col dd k0 k1 k2 k3 k5 newId)) (hC' : h.get? C' = some (excClassObj nm' q' C' N' bs' bm' hdct' sn' sub' ab' col' dd' l0 l1 l2 l3 l5 newId'))
    (he : h.get? e = some oe) (hcls : oe.cls = .ref C) (hbase : bm'.contains (.type "BaseException") = true)
    (hq : Q ((Value.ref C :: bm).contains (.ref C')) ⟨h, g, d, t, os⟩) : wpAny M A (excMatches (.ref e) (.ref C')) Q E ⟨h, g, d, t, os⟩ := by
  have hcB : (Value.ref C' :: bm').contains (.type "BaseException") = true := by rw [List.contains_cons, hbase, Bool.or_true]
  have f := tc_notTuple
  unfold excMatches
  repeat (first | (with_reducible refine wpAny_loadPart_at he ?_; rw [hcls]) | with_reducible refine wpAny_loadPart_at hC' ?_ | (with_reducible refine wpAny_isSubtype_exc hC' ?_; rw [hcB]) | with_reducible refine wpAny_isSubtype_exc hC ?_ | wp_step)
  cases hb : (Value.ref C :: bm).contains (.ref C') <;> (rw [hb] at hq; wp_walk; exact hq)
end

noncomputable def PM (X : Cx) (t : Expr) (cls : Value) (tm : TT) : Prop :=
  ∀ (pins : List (Addr × Obj)) (s : Shared) (σ : St) (H : Hp) (a : Addr) (oa : Obj) (Q : Bool → Hp → Prop), Inv X pins σ H s → (a, oa) ∈ pins → oa.cls = cls → tm σ H Q →
    wpAny (model X.prog X.w) X.A (eval t X.env) (fun c s1 => wpAny (model X.prog X.w) X.A (excMatches (.ref a) c) (TP X pins σ Q) (fun _ _ => False) s1) (fun _ _ => False) s
noncomputable def tBool (b : Bool) : TT := fun _ H Q => Q b H
theorem pm_own {X : Cx} {x x' : Str} {C C' : Addr} {bm bm' : List Value} {p : Pos} (O : OX X.K X.mg x C bm) (O' : OX X.K X.mg x' C' bm') (hg : Gl X x' := by rfl) (hdb : (x' == ("__debug__" : Str)) = false := by decide) :
    PM X (.Name x' p) (.ref C) (tBool ((Value.ref C :: bm).contains (.ref C'))) := by
  intro pins s σ H a oa Q I hp hc h
  refine L2.put_away fun G'1632x3 h'1632x3 => ?_
  obtain ⟨N, nm, q, bs, hdct, sn, sub, ab, col, dd, k0, k1, k2, k3, k5, lk, _, _⟩ := O.obj
  refine h'1632x3 ?_
  refine L2.put_away fun G'1632x4 h'1632x4 => ?_
  obtain ⟨N', nm', q', bs', hdct', sn', sub', ab', col', dd', l0, l1, l2, l3, l5, lk', _, _⟩ := O'.obj
  refine h'1632x4 ?_
  refine ld_glob I hg O'.bound ?_ hdb
  refine L2.put_away fun G'1632x6 h'1632x6 => ?_
  obtain ⟨hp', g, d, t, os⟩ := s
  refine h'1632x6 ?_
  exact excMatches_own (I.kIn _ _ lk) (I.kIn _ _ lk') (I.pin _ (List.mem_append_right _ hp)).1 hc ((PySem.W.tail_of_in I.kIn O'.tail).hasType rfl) ⟨H, I, h⟩
noncomputable def PH (X : Cx) (hs : List ExceptHandler) (t : Addr → Value → TS) : Prop :=
  ∀ (pins : List (Addr × Obj)) (s : Shared) (σ : St) (H : Hp) (D : Ends) (a : Addr) (cls : Value), Inv X pins σ H s → FlyAt X pins H s.heap a cls → t a cls D σ H →
    wpAny (model X.prog X.w) X.A (handleBy (.ref a) X.env hs) (SP X pins D) (fun _ _ => False) s

theorem Inv.pinX {X : Cx} {pins : List (Addr × Obj)} {σ : St} {H : Hp} {s : Shared} {a : Addr} {cls : Value} (I : Inv X pins σ H s) (fl : FlyAt X pins H s.heap a cls) :
    ∃ oa T oT, Inv X ([(a, oa), (T, oT)] ++ pins) σ H s ∧ oa.cls = cls ∧ ∀ {H' : Hp} {s' : Shared}, Inv X ([(a, oa), (T, oT)] ++ pins) σ H' s' → FlyAt X pins H' s'.heap a cls := by
  refine L2.put_away fun G'1636x2 h'1636x2 => ?_
  obtain ⟨oe, vs, T, oT, ts, a0, he, hc, hd, hv1, hTe, hT, hdT, h3, has⟩ := fl
  refine h'1636x2 ?_
  refine ⟨oe, T, oT, I.pins_of fun p hp => ?_, hc.1, fun {H' s'} J => ?_⟩
  · rcases List.mem_append.mp hp with z | z
    · rcases List.mem_cons.mp z with rfl | z
      · exact ⟨he, (has a (by simp)).2, (has a (by simp)).1.2.1, (has a (by simp)).1.2.2.2.1, fun v e => by rw [hd] at e; cases e⟩
      · rw [List.mem_singleton.mp z]
        exact ⟨hT, (has T (by simp)).2, (has T (by simp)).1.2.1, (has T (by simp)).1.2.2.2.1, fun v e => by rw [hdT] at e; cases e⟩
    · exact I.pin p (List.mem_append_right _ z)
  · have pa := J.pin (a, oe) (List.mem_append_right _ (by simp))
    have pT := J.pin (T, oT) (List.mem_append_right _ (by simp))
    refine ⟨oe, vs, T, oT, ts, a0, pa.1, hc, hd, hv1, hTe, pT.1, hdT, h3, fun b hb => ?_⟩
    rcases List.mem_cons.mp hb with rfl | hb
    · exact ⟨(has _ (by simp)).1, pa.2.1⟩
    · rw [List.mem_singleton.mp hb]; exact ⟨(has T (by simp)).1, pT.2.1⟩
theorem Inv.unpin {X : Cx} {pins more : List (Addr × Obj)} {σ : St} {H : Hp} {s : Shared} (I : Inv X (more ++ pins) σ H s) : Inv X pins σ H s := I.pins_of fun p hp => I.pin p (List.mem_append_right _ (List.mem_append_right _ hp))

noncomputable def tClause (cls0 : Value) (tm : TT) (take rest : Addr → Value → TS) : Addr → Value → TS := fun a cls D σ H => cls = cls0 ∧ tm σ H fun b H' => if b = true then take a cls D σ H' else rest a cls D σ H'
noncomputable def tSuiteAs (i : Nat) (tb : TS) : Addr → Value → TS := fun a cls D σ H =>
  tb { nx := fun σ' H' => D.nx (σ'.set i none) H', rt := D.rt, bk := fun σ' H' => D.bk (σ'.set i none) H', ct := fun σ' H' => D.ct (σ'.set i none) H' } (σ.set i (some (.ref a))) (upd H a (excO a cls))
section
variable {X : Cx} {t : Expr} {b₀ : Stmt} {body : List Stmt} {pos : Pos} {rest : List ExceptHandler} {cls0 : Value} {tm : TT} {tb : TS} {tr : Addr → Value → TS}
theorem ph_nil : PH X [] fun _ _ _ _ _ => False := fun _ _ _ _ _ _ _ _ _ h => h.elim
theorem ph_cons_as {i : Nat} {n : Str} (hx : X.ex = []) (hN : X.N.Nodup) (hm : ∀ a, PM (X.suite a) t cls0 tm) (hb : ∀ a, PSs (X.suite a) (b₀ :: body) tb) (hr : PH X rest tr) (hi : X.N[i]? = some n := by rfl) (hl : X.env.scope.names.lookup n = some .local := by rfl) :
    PH X (.ExceptHandler (some t) (some n) (b₀ :: body) pos :: rest) (tClause cls0 tm (tSuiteAs i tb) tr) := by
  intro pins s σ H D a cls I fl ⟨hcl, h⟩
  subst hcl
  refine wpAny_handleBy_cons (codeAny_handlers_test ?_) (by intro q; cases q)
  refine L2.put_away fun G'1645x5 h'1645x5 => ?_
  obtain ⟨oa, T, oT, J, hc, back⟩ := I.pinX fl
  refine h'1645x5 ?_
  have h1 := hm a _ s σ H a oa _ (J.suite a) (by simp) hc h
  refine wpAny_mono h1 (fun c s1 h2 => wpAny_mono h2 (fun b s2 ⟨H2, J2, q⟩ => ?_) fun _ _ z => z.elim) fun _ _ z => z.elim
  have J3 := J2.unsuite I.ok
  cases b with
  | true =>
    refine codeAny_handlers_suite_as (seen2 hx J3.unpin (back J3) fun h5 I5 F5 => ?_)
    refine store_ok (v := .ref a) (I5.track F5) hN hi (.inl hl) rfl (fun s6 I6 => ?_) (.inr hl)
    refine wpAny_mono (hb a pins s6 _ _ _ (I6.suite a) q) (fun f s7 hf => ?_) fun _ _ z => z.elim
    have hf := hf.unsuite I.ok
    cases f with
    | next => obtain ⟨σ', H', I7, q7⟩ := hf; exact name_goes I7 hN hi hl fun s8 I8 => ⟨_, H', I8, q7⟩
    | brk => obtain ⟨σ', H', I7, q7⟩ := hf; exact name_goes I7 hN hi hl fun s8 I8 => ⟨_, H', I8, q7⟩
    | cont => obtain ⟨σ', H', I7, q7⟩ := hf; exact name_goes I7 hN hi hl fun s8 I8 => ⟨_, H', I8, q7⟩
    | ret u => obtain ⟨v, σ', H', I7, r, q7⟩ := hf; exact name_goes I7 hN hi hl fun s8 I8 => ⟨v, _, H', I8, r, q7⟩
  | false => exact hr pins s2 σ H2 D a cls J3.unpin (back J3) q
end

noncomputable def PXe (X : Cx) (e : Expr) (t : XK → TE) : Prop := ∀ (pins : List (Addr × Obj)) (s : Shared) (σ : St) (H : Hp) (Q : VK) (E : XK), Inv X pins σ H s → t E σ H Q → wpAny (model X.prog X.w) X.A (eval e X.env) (EP X pins σ Q) (XE X pins σ E) s
noncomputable def PXs (X : Cx) (st : List Stmt) (t : XK → TS) : Prop := ∀ (pins : List (Addr × Obj)) (s : Shared) (σ : St) (H : Hp) (D : Ends) (E : XK), Inv X pins σ H s → t E D σ H → wpAny (model X.prog X.w) X.A (execs st X.env) (SP X pins D) (XE X pins σ E) s
section
variable {X : Cx} {e : Expr} {es : List Expr} {pos p : Pos} {t : TA}
theorem pxe_call {k : Nat} {x : Str} {ps : List Str} {sp : Sp} (hx : X.ex = []) (h : HasX X.prog X.w X.K X.mg X.base k x ps sp) (hr : Room k X.A) (ha : PA X.nox (e :: es) t) (hg : Gl X x := by rfl)
    (hdb : (x == ("__debug__" : Str)) = false := by decide) (he : starEach (e :: es) X.env = (false, eval e X.env) :: starEach es X.env := by rfl) (hpl : (backTo pos (starEach es X.env)).any (·.1) = false := by rfl) :
    PXe X (.Call (.Name x p) (e :: es) [] pos) fun E => tCall sp [] E t := by
  intro pins s σ H Q E I hw
  refine L2.put_away fun G'1652x4 h'1652x4 => ?_
  obtain ⟨f, fd, F, hb, hk, hm⟩ := h
  refine h'1652x4 ?_
  refine wpAny_Call_Name_kw (ld_glob I hg hm ?_ hdb)
  refine PySem.W.callWith_K (h₀ := X.base) I.ok.mod.kin hk (wpAny_mono (ha pos pins s σ H _ (I.wish _) hw) (fun us s1 ⟨vs, H1, I1, r, q⟩ => ⟨I1.kIn, ?_⟩) fun _ _ z => z.elim) he hpl
  have J := I1.unwish
  have q : sp vs H1 Q E := by have z : sp (vs ++ []) H1 Q E := q; rwa [List.append_nil] at z
  have hl : us.length = ps.length := by rw [← r.length]; exact F.len _ _ _ _ q
  refine wpAny_call (codeAny_mono (F.run X.A X.stack s1 H1 ⟨us, []⟩ us vs Q E hr J.env0 (.of_eq (hb us hl)) r q) fun r s' hq => ?_)
  cases r with
  | error e => exact J.afterXE hx hq
  | ok fl =>
    cases fl with
    | ret u => exact J.after hq
    | next => exact False.elim hq
    | brk => exact False.elim hq
    | cont => exact False.elim hq
theorem pxs_expr {te : XK → TE} (he : PXe X e te) (hs : swapsWith e none pos.line X.env = pure false := by rfl) : PXs X [.Expr e pos] fun E => tDrop (te E) := by
  intro pins s σ H D E I h
  refine wpAny_execs_cons (wpAny_Expr_any (thn (he pins s σ H _ E I h) fun v s1 ⟨x, H1, I1, r1, q1⟩ => wpAny_execs_nil ⟨σ, H1, I1, q1⟩) I.quiet hs)
noncomputable def tTry (tb : XK → TS) (th : Addr → Value → TS) : TS := fun D σ H => tb (fun cls a H' => ∃ a', a = some a' ∧ th a' cls D σ H') D σ H
theorem ps_try {body : List Stmt} {h₀ : ExceptHandler} {hs : List ExceptHandler} {tb : XK → TS} {th : Addr → Value → TS} (hx : X.ex = []) (hst : X.stack = X.env :: X.outer) (hf : X.env.frame = some X.env.locals) (hb : PXs X body tb) (hh : PH X (h₀ :: hs) th) :
    PS X (.Try body (h₀ :: hs) [] [] pos) (tTry tb th) := by
  intro pins s σ H D I h
  refine wpAny_Try_except (wpAny_mono (hb pins s σ H D _ I h) (fun f s1 q => ?_) fun e s1 q => ?_)
  · cases f with
    | next => exact wpAny_execs_nil q
    | ret v => exact q
    | brk => exact q
    | cont => exact q
  · refine L2.put_away fun G'1657x9 h'1657x9 => ?_
    obtain ⟨a, cls, H', rfl, I', fl, a', ha, q⟩ := q
    refine h'1657x9 ?_
    cases ha
    exact seen hx hst hf I' fl fun h5 I5 F5 => wpAny_mono (hh pins _ σ H' D a cls I5 F5 q) (fun _ _ z => z) fun _ _ z => z.elim
end
end L2
namespace L2
open PySem PySem.Spec PyProof.Rows

noncomputable def OwnAt (h : Heap) (C : Addr) (bm : List Value) : Prop := ∃ N nm q bs hdct sn sub ab col dd k0 k1 k2 k3 k5 newId, h.get? C = some (excClassObj nm q C N bs bm hdct sn sub ab col dd k0 k1 k2 k3 k5 newId) ∧ bm.contains (.type "BaseException") = true
theorem OX.at {K : PySem.W.Frag} {mg : Str → Option Value} {x : Str} {C : Addr} {bm : List Value} {h : Heap} (O : OX K mg x C bm) (X : K.In h) : OwnAt h C bm := by
  refine L2.put_away fun G'1663x1 h'1663x1 => ?_
  obtain ⟨N, nm, q, bs, hdct, sn, sub, ab, col, dd, k0, k1, k2, k3, k5, lk, _, _⟩ := O.obj
  refine h'1663x1 ?_
  exact ⟨N, nm, q, bs, hdct, sn, sub, ab, col, dd, k0, k1, k2, k3, k5, _, X _ _ lk, (PySem.W.tail_of_in X O.tail).hasType rfl⟩

section
variable {M : Model} {A : Around} {E : Value → Shared → Prop} {h : Heap} {g : Array GenState} {d : Drawn} {t : Nat} {os : OsState}
theorem isSubtype_own {C : Addr} {bm : List Value} {c : Value} {Q : Bool → Shared → Prop} (O : OwnAt h C bm) (hq : Q ((Value.ref C :: bm).contains c) ⟨h, g, d, t, os⟩) : wpAny M A (isSubtype (.ref C) c) Q E ⟨h, g, d, t, os⟩ := by
  refine L2.put_away fun G'1667x1 h'1667x1 => ?_
  obtain ⟨N, nm, q, bs, hdct, sn, sub, ab, col, dd, k0, k1, k2, k3, k5, newId, hC, hb⟩ := O
  refine h'1667x1 ?_
  exact wpAny_isSubtype_exc hC hq
end

end L2
namespace L2
open PySem PySem.Spec PySem.Calls PyProof.Rows PySem.W

theorem exc_ans {K : Frag} {e C : Addr} {c : Value} (ty : ∀ (M : Model) (h : Heap), K.In h → Looks M h (typeOf c) (.type "type")) (it : ∀ (M : Model) (h : Heap), K.In h → Looks M h (isType c) true)
    (sub : ∀ (M : Model) (h : Heap), K.In h → Looks M h (isSubtype (.ref C) c) true) : Answers (fun s => K.In s.heap ∧ ∃ o, s.heap.get? e = some o ∧ o.cls = .ref C) (.ref e) c true := by
  intro dep tk prog w A R s hs
  refine L2.put_away fun G'1678x3 h'1678x3 => ?_
  obtain ⟨h0, g, d, tt, os⟩ := s
  refine h'1678x3 ?_
  refine L2.put_away fun G'1678x4 h'1678x4 => ?_
  obtain ⟨⟨X, o, ho, hcl⟩, hq⟩ := hs
  refine h'1678x4 ?_
  have LT : Looks (model prog w) h0 (typeOf (.ref e)) (.ref C) := hcl ▸ (Looks.ld ho).andThen .now
  unfold Builtin.«isinstance.nested»
  refine wpAny_bind (LT.at ?_)
  by_cases q : (Value.ref C == c) = true
  · rw [if_pos q]
    first
      | ((repeat lk); exact hq tt)
      | exact wpAny_bind (wpAny_rule (hq tt))
      | exact wpAny_bind (wpAny_rule (wpAny_pure (hq tt)))
  · rw [if_neg q]
    have LI : Looks (model prog w) h0 (isInstance (.ref e) c) true := LT.andThen (sub _ _ X)
    refine wpAny_bind ((ty _ _ X).at ?_)
    rw [if_pos (by decide)]
    k_delta "plainIsInstance"
    refine wpAny_bind (wpAny_bind ((it _ _ X).at ?_))
    simp only [Bool.not_true, Bool.false_eq_true, if_false]
    refine wpAny_bind (LI.at ?_)
    first
      | exact wpAny_pure (wpAny_pure (hq tt))
      | (simp only [if_true]; first | exact wpAny_pure (wpAny_pure (hq tt)) | exact wpAny_pure (hq tt) | exact wpAny_bind (wpAny_pure (wpAny_pure (hq tt))))
theorem exc_isi {K : Frag} {e C : Addr} {c : Value} {prog : Program} {w : World} {A : Around} {E : Value → Shared → Prop} {s : Shared} {Q : Value → Shared → Prop} (ty : ∀ (M : Model) (h : Heap), K.In h → Looks M h (typeOf c) (.type "type")) (it : ∀ (M : Model) (h : Heap), K.In h → Looks M h (isType c) true)
    (sub : ∀ (M : Model) (h : Heap), K.In h → Looks M h (isSubtype (.ref C) c) true) (X : K.In s.heap) (p : ∃ o, s.heap.get? e = some o ∧ o.cls = .ref C) (h : ∀ tk, Q (.bool true) { s with toks := tk }) :
    wpAny (model prog w) A (call (.builtin "isinstance") [.ref e, c]) Q E s :=
  call_isinstance (S := fun _ R s => (K.In s.heap ∧ ∃ o, s.heap.get? e = some o ∧ o.cls = .ref C) ∧ ∀ tk, R (.ok (.ret (.bool true))) { s with toks := tk })
    (fun prog w A R s hs => isinstance_outer (exc_ans ty it sub 0 _ prog w A R s hs) (fun z => nomatch z)) ⟨⟨X, p⟩, h⟩

theorem looks_ty_own {K : Frag} {mg : Str → Option Value} {x : Str} {C : Addr} {bm : List Value} (O : OX K mg x C bm) (M : Model) (h : Heap) (X : K.In h) : Looks M h (typeOf (.ref C)) (.type "type") ∧ Looks M h (isType (.ref C)) true := by
  refine L2.put_away fun G'1680x1 h'1680x1 => ?_
  obtain ⟨N, nm, q, bs, hdct, sn, sub, ab, col, dd, k0, k1, k2, k3, k5, lk, _, _⟩ := O.obj
  refine h'1680x1 ?_
  refine ⟨(Looks.ld (X _ _ lk)).andThen .now, fun A' Q' E' s' k q => ?_⟩
  unfold isType loadHead
  exact wpAny_bind (wpAny_loadPart (k _ _ (X _ _ lk)) (wpAny_pure q))
theorem looks_sub_own {K : Frag} {mg : Str → Option Value} {x : Str} {C : Addr} {bm : List Value} {c : Value} {b : Bool} (O : OX K mg x C bm) (hb : (Value.ref C :: bm).contains c = b) (M : Model) (h : Heap) (X : K.In h) : Looks M h (isSubtype (.ref C) c) b :=
  fun A' Q' E' s' k q => by
    refine L2.put_away fun G'1681x2 h'1681x2 => ?_
    obtain ⟨h', g, d, t, os⟩ := s'
    refine h'1681x2 ?_
    exact isSubtype_own (O.at (X.keeps k)) (by rw [hb]; exact q)
noncomputable def rIsX (C : Addr) (c : V) : List V → Hp → VK → Prop := fun xs H Q => ∃ a, xs = [.ref a, c] ∧ H a = some (excO a (.ref C)) ∧ Q (.bl true) H
theorem call_isXT {X : Cx} {x : Str} {C : Addr} {bm : List Value} {T : String} (O : OX X.K X.mg x C bm) (hb : (Value.ref C :: bm).contains (.type T) = true) (hm : kitMeta T = true) : CallR X (.builtin "isinstance") (rIsX C (.ty T)) := by
  intro pins s σ H xs us Q I r h
  refine L2.put_away fun G'1684x2 h'1684x2 => ?_
  obtain ⟨a, rfl, ha, q⟩ := h
  refine h'1684x2 ?_
  refine L2.put_away fun G'1684x3 h'1684x3 => ?_
  obtain ⟨u, c, rfl, r1, r2⟩ := Vals.two r
  refine h'1684x3 ?_
  obtain rfl : c = Value.type T := r2
  obtain rfl : u = Value.ref a := r1
  have ho := (show ObjOk X.prog X.w H s.heap a (excO a (.ref C)) from I.hok a _ ha)
  exact exc_isi (K := X.K) (fun M h _ => Looks.of_pure (kitMeta_of hm)) (fun M h _ => Looks.of_pure rfl) (looks_sub_own O hb) I.kIn ho.1 fun tk => ⟨.bl true, H, I.tok tk, rfl, q⟩
end L2
namespace SM
theorem modB3 (x : Int) {m : Int} (h : 1 ≤ m) : 0 ≤ x % m ∧ x % m < m := ⟨Int.emod_nonneg _ (by omega), Int.emod_lt_of_pos _ (by omega)⟩
theorem mod_of {x m r : Int} (h0 : 0 ≤ r) (h1 : r < m) (h : m ∣ x - r) : x % m = r := by
  obtain ⟨k, hk⟩ := h
  have : x = r + m * k := by (clear h0 h1; omega)
  rw [this, Int.add_mul_emod_self_left, Int.emod_eq_of_lt h0 h1]
theorem mod_dvd (x m : Int) : m ∣ x - x % m := ⟨x / m, by have := Int.mul_ediv_add_emod x m; omega⟩
noncomputable def sh2 (u v : T3) : T3 := (gcdI u.1 v.1, (u.2.1 - v.2.1 - (v.2.2 - 1)) % gcdI u.1 v.1, if u.2.2 + v.2.2 - 1 < gcdI u.1 v.1 then u.2.2 + v.2.2 - 1 else gcdI u.1 v.1)
theorem sh2_pos {u v : T3} (hu : 1 ≤ u.1) : 1 ≤ gcdI u.1 v.1 := by have := gcdI_pos (a := u.1) (b := v.1) (by omega); (clear hu; omega)
theorem sh2_wk {u v : T3} (hu : L2.Wk u) (hv : L2.Wk v) : L2.Wk (sh2 u v) := by
  have g := sh2_pos (v := v) hu.1
  have b := modB3 (u.2.1 - v.2.1 - (v.2.2 - 1)) g
  refine L2.put_away fun G'1695x3 h'1695x3 => ?_
  obtain ⟨_, _, _, _, _⟩ := hu
  refine h'1695x3 ?_
  refine L2.put_away fun G'1695x4 h'1695x4 => ?_
  obtain ⟨_, _, _, _, _⟩ := hv
  refine h'1695x4 ?_
  refine ⟨g, b.1, b.2, ?_, ?_⟩
  · show 1 ≤ ite _ _ _
    split <;> (clear b; omega)
  · show ite _ _ _ ≤ gcdI u.1 v.1
    split <;> (clear g b; omega)
end SM
namespace L2
open PySem PySem.Spec PyProof.Rows SM
section
variable {X : Cx} {pos : Pos}
noncomputable def gLst (K : PySem.W.Frag) (n : Nat) (t : TGs) : TG := fun v σ H Q => ∃ a xs, v = .ref a ∧ SqL K H a xs ∧ xs.length = n ∧ t xs σ H Q
theorem pg_lst {es : List Expr} {k : Nat} {t : TGs} {n : Nat} (hc : X.calm = true) (h : PGs X es t)
    (hn : (assignEach es X.env).length = n := by rfl) (hst : (assignEach es X.env).findIdx? (·.1) = none := by rfl) : PG X (.Tuple es k pos) (gLst X.K n t) := by
  intro pins s σ H v u Q I r hw
  refine L2.put_away fun G'1728x3 h'1728x3 => ?_
  obtain ⟨a, xs, e1, hq, hl, hw⟩ := hw
  refine h'1728x3 ?_
  subst e1
  cases r
  refine L2.put_away fun G'1728x6 h'1728x6 => ?_
  obtain ⟨its, rv, p, hz⟩ := I.list hq
  refine h'1728x6 ?_
  rw [assign_Tuple]
  refine wpAny_bind (wpAny_standAt ?_)
  unfold unpack
  have hn2 : (assignEach es X.env).length = its.toArray.size := by simp [hn, ← hl, rv.length]
  rw [hn2, hst]
  refine wpAny_bind (wpAny_holding (PySem.W.kun_itemsOf (I.ok.hd hc) p.isList fun h' hx => ?_))
  have I1 : Inv X pins σ H { s with heap := h' } := I.kept (t' := s.toks) fun b o e => hx b o (Nat.ne_of_lt (Heap.lt_size e)) e
  exact h pins _ σ H xs _ Q I1 (by simpa using rv) hw
end
end L2
namespace L2
open PySem PySem.Spec PyProof.Rows SM
section
variable {X : Cx}
end
section
variable {X : Cx} {K : PySem.W.Frag}
theorem ix_listK (h : X.K = K) : IxR X (rIxL K) := h ▸ ix_list
theorem ix_tupK (h : X.K = K) : IxR X (rIxT K) := h ▸ ix_tup
end
section
variable {K : PySem.W.Frag} {H : Hp} {Q : VK} {a b a1 a2 b1 b2 : Addr} {xs1 xs2 ys1 ys2 : List V} {ws vs : List T3}
end
end L2
namespace L2
open PySem PySem.Spec PyProof.Rows SM
section
variable {X : Cx} {tg : Expr}
noncomputable def iRngN (ta : TA) : TI := fun σ H R => ta σ H fun vs H1 => ∃ i j : Int, vs = [.int i, .int j, .int (-1)] ∧ R (Its i (-1) (i - j).toNat) H1
theorem iRngN_ap {ta : TA} {R : It → Hp → Prop} {σ : St} {H : Hp} : iRngN ta σ H R = ta σ H fun vs H1 => ∃ i j : Int, vs = [.int i, .int j, .int (-1)] ∧ R (Its i (-1) (i - j).toNat) H1 := rfl
end
end L2
namespace L2
open PySem PySem.Spec PySem.Calls PyProof.Rows PySem.W Builtin Builtin.ObjectAttr Builtin.Getset_descriptor

structure OC (K : Frag) (C : Addr) : Prop where
  ga : findIn K (.ref C) "__getattribute__" = some (some (.builtin "BaseException.__getattribute__"))
  gt : findIn K (.ref C) "__getattr__" = some none
  cl : findIn K (.ref C) "__class__" = some (some (.builtin "object.__class__"))

section
variable {prog : Program} {w : World} {A : Around} {E : Value → Shared → Prop} {h : Heap} {g : Array GenState} {d : Drawn} {t : Nat} {os : OsState} {a C : Addr} {o : Obj} {bm : List Value} {K : Frag}
theorem looks_excTy {M : Model} (hx : h.get? a = some o) (hc : o.cls = .ref C) : Looks M h (typeOf (.ref a)) (.ref C) := hc ▸ (Looks.ld hx).andThen .now
theorem looks_ownSub {M : Model} {c : Value} {b : Bool} (O : ∀ h', K.In h' → OwnAt h' C bm) (X : K.In h) (hb : (Value.ref C :: bm).contains c = b) : Looks M h (isSubtype (.ref C) c) b :=
  fun A' Q' E' s' k q => by
    refine L2.put_away fun G'1774x2 h'1774x2 => ?_
    obtain ⟨h', g, d, t, os⟩ := s'
    refine h'1774x2 ?_
    exact isSubtype_own (O _ (X.keeps k)) (by rw [hb]; exact q)
theorem class_get_exc {R : Result → Shared → Prop} {tp : Value} (O : ∀ h', K.In h' → OwnAt h' C bm) (X : K.In h) (ho : (Value.ref C :: bm).contains (.type "object") = true) (hx : h.get? a = some o) (hc : o.cls = .ref C) (hq : R (.ok (.ret (.ref C))) ⟨h, g, d, t, os⟩) :
    codeAny (model prog w) A (.call (.builtin "getset_descriptor.__get__") ⟨[.builtin "object.__class__", .ref a, tp], []⟩) R ⟨h, g, d, t, os⟩ := by
  have L0 := looks_excTy (M := model prog w) hx hc
  have L1 := looks_ownSub (M := model prog w) O X ho
  refine codeAny_call_builtin KF.slot_gs.plain KF.entry_gs (KF.slot_gs.check _ _ _ _ _ _ _ _ KF.type_class (KF.args_gs _ _ _) ?_)
  unfold Builtin.«getset_descriptor.__get__» descrGet
  rw [dga_obj]
  refine wpAny_bind (wpAny_pure ?_)
  unfold descrGetter descrCheckInstance descrNameAndClass isInstance
  simp only [KF.owner_class]
  repeat lk
  refine ⟨Code.quiet_builtin _ (by decide +kernel), codeAny_builtin KF.entry_class ?_⟩
  unfold Builtin.«object.__class__» shownTypeOf
  repeat lk
  exact hq
theorem check_ga_exc {M : Model} {nameV : Value} {Q : Unit → Shared → Prop} (O : OwnAt h C bm) (hx : h.get? a = some o) (hc : o.cls = .ref C) (hq : Q () ⟨h, g, d, t, os⟩) : wpAny M A (checkBuiltinCall "BaseException.__getattribute__" ⟨[.ref a, nameV], []⟩) Q E ⟨h, g, d, t, os⟩ := by
  have hk : builtinKind "BaseException.__getattribute__" = some .slot := by decide +kernel
  have hsplit : splitId "BaseException.__getattribute__" = some ("BaseException", "__getattribute__") := by decide +kernel
  refine L2.put_away fun G'1776x3 h'1776x3 => ?_
  obtain ⟨N, nm, q, bs, hdct, sn, sub, ab, col, dd, k0, k1, k2, k3, k5, newId, hC, hb⟩ := O
  refine h'1776x3 ?_
  have hcB : (Value.ref C :: bm).contains (.type "BaseException") = true := by rw [List.contains_cons, hb, Bool.or_true]
  have ha := PySem.F.args_bexc_ga (.ref a) nameV
  simp only [checkBuiltinCall, hk, hsplit]
  refine wpAny_bind ?_
  · unfold isInstance
    repeat (first | (with_reducible refine wpAny_loadPart_at hx ?_; rw [hc]) | (with_reducible refine wpAny_isSubtype_exc hC ?_; rw [hcB]) | wp_step)
    exact hq
theorem class_entry_exc {tk : Tok} {Q : Fin → Shared → Prop} (Z : OC K C) (O : ∀ h', K.In h' → OwnAt h' C bm) (X : K.In h) (ho : (Value.ref C :: bm).contains (.type "object") = true) (hx : h.get? a = some o) (hc : o.cls = .ref C) (hq : Q (.done (.ret (.ref C))) ⟨h, g, d, t, os⟩) :
    wpAny (model prog w) A (Builtin.«object.__getattribute__» ⟨[.ref a, .str "__class__" tk], []⟩) Q E ⟨h, g, d, t, os⟩ := by
  have hT5 : (⟨h, g, d, t, os⟩ : Shared).TypeIs (.builtin "object.__class__") "getset_descriptor" := PySem.F.typeOf_object_class
  have f5 := PySem.F.typeOf_object_class
  have f6 := PySem.F.slot_gs_get.lookup
  have f7 := PySem.F.slot_gs_set.lookup
  have L1 := looks_findIn (M := model prog w) X Z.cl
  repeat (any_goals (first | assumption | (with_reducible refine wpAny_loadPart_at hx ?_; rw [hc]) | with_reducible refine L1.at ?_ | wp_step))
  refine class_get_exc O X ho hx hc ?_
  repeat (any_goals (first | assumption | wp_step))
theorem class_by_exc {tk : Tok} {fill : Bool} {Q : Value → Shared → Prop} (Z : OC K C) (O : ∀ h', K.In h' → OwnAt h' C bm) (X : K.In h) (ho : (Value.ref C :: bm).contains (.type "object") = true) (hx : h.get? a = some o) (hc : o.cls = .ref C) (hq : Q (.ref C) ⟨h, g, d, t, os⟩) :
    wpAny (model prog w) A (getAttrBy (.ref a) (.str "__class__" tk) fill false) Q E ⟨h, g, d, t, os⟩ := by
  have f3 := PySem.F.excAttr_ValueError.ga.bind (.ref a)
  have hx0 : (false && onTheHeap (Value.builtin "BaseException.__getattribute__")) = false := rfl
  have hx2 : (Value.builtin "BaseException.__getattribute__" == Value.builtin "object.__getattribute__") = false := by decide +kernel
  have hx1 : (onTheHeap (Value.ref C) && Value.builtin "BaseException.__getattribute__" == Value.builtin "object.__getattribute__") = false := by rw [hx2]; rfl
  have L1 := looks_findIn (M := model prog w) X Z.ga
  have L2 := looks_findIn (M := model prog w) X Z.gt
  repeat (any_goals (first | assumption | (with_reducible refine wpAny_loadPart_at hx ?_; rw [hc]) | with_reducible refine L1.at ?_ | with_reducible refine L2.at ?_ | wp_step))
  refine codeAny_call_builtin PySem.F.excAttr_ValueError.ga.plain PySem.F.entry_bexc_ga (check_ga_exc (O _ X) hx hc (class_entry_exc Z O X ho hx hc ?_))
  repeat (any_goals (first | assumption | wp_step))
theorem class_exc {Q : Option Value → Shared → Prop} (Z : OC K C) (O : ∀ h', K.In h' → OwnAt h' C bm) (X : K.In h) (ho : (Value.ref C :: bm).contains (.type "object") = true) (hx : h.get? a = some o) (hc : o.cls = .ref C) (hq : Q (some (.ref C)) ⟨h, g, d, t + 1, os⟩) :
    wpAny (model prog w) A (getAttr? (.ref a) "__class__") Q E ⟨h, g, d, t, os⟩ := by
  unfold getAttr? getAttrBy?
  refine wpAny_bind (wpAny_mkText (wpAny_bind (wpAny_attempt ?_)))
  exact class_by_exc Z O X ho hx hc (wpAny_pure hq)
end
section
variable {K : Frag} {mg : Str → Option Value} {x x' : Str} {C C' : Addr} {bm bm' : List Value}
theorem kitx_exc {a : Addr} (Z : OC K C) (O : OX K mg x C bm) (ho : (Value.ref C :: bm).contains (.type "object") = true) : KitX K (.ref a) (.ref C) (fun h => ∃ o, h.get? a = some o ∧ o.cls = .ref C) where
  ty := fun M h _ p => by
    refine L2.put_away fun G'1783x2 h'1783x2 => ?_
    obtain ⟨o, h1, h2⟩ := p
    refine h'1783x2 ?_
    exact looks_excTy h1 h2
  it := fun M h X _ => (looks_ty_own O M h X).2
  ne := fun h tp dd its n sl X htp => by
    refine Bool.eq_false_iff.mpr fun q => ?_
    have e : C = tp := Value.ref.inj (beq_iff_eq.mp q)
    subst e
    refine L2.put_away fun G'1783x9 h'1783x9 => ?_
    obtain ⟨N, nm, q, bs, hdct, sn, sub, ab, col, dd, k0, k1, k2, k3, k5, lk, _, _⟩ := O.obj
    refine h'1783x9 ?_
    have z := (X _ _ lk).symm.trans htp
    have z2 := congrArg (fun o => o.map Obj.cls) z
    have z3 : some (Value.type "type") = some (Value.type "tuple") := z2
    exact absurd (Value.type.inj (Option.some.inj z3)) (by decide)
  ca := fun {prog w A E Q s} X p k => by
    refine L2.put_away fun G'1783x15 h'1783x15 => ?_
    obtain ⟨o, h1, h2⟩ := p
    refine h'1783x15 ?_
    refine L2.put_away fun G'1783x16 h'1783x16 => ?_
    obtain ⟨h, g, d, t, os⟩ := s
    refine h'1783x16 ?_
    exact class_exc Z (fun h' X' => O.at X') X ho h1 h2 k
theorem kitOne_own (O : OX K mg x C bm) (O' : OX K mg x' C' bm') : kitOne K (.ref C) (.ref C') = some ((Value.ref C :: bm).contains (.ref C')) := by
  refine L2.put_away fun G'1784x1 h'1784x1 => ?_
  obtain ⟨N, nm, q, bs, hdct, sn, sub, ab, col, dd, k0, k1, k2, k3, k5, lk, _, _⟩ := O.obj
  refine h'1784x1 ?_
  refine L2.put_away fun G'1784x2 h'1784x2 => ?_
  obtain ⟨N', nm', q', bs', hdct', sn', sub', ab', col', dd', k0', k1', k2', k3', k5', lk', _, _⟩ := O'.obj
  refine h'1784x2 ?_
  unfold kitOne
  by_cases e : (Value.ref C == Value.ref C') = true
  · rw [if_pos e]
    have : C = C' := Value.ref.inj (beq_iff_eq.mp e)
    subst this
    simp
  · rw [if_neg e]
    unfold kitCls
    have h1 : (clsIn K C').isSome = true := by unfold clsIn; rw [lk']; rfl
    have h2 : typeIn K (.ref C') = some (.type "type") := by show (K.lookup C').map (·.cls) = _; rw [lk']; rfl
    simp only [h1, h2, Bool.true_and, beq_self_eq_true, if_true]
    show mroIn K C (.ref C') = _
    unfold mroIn clsIn
    rw [lk]
    rfl
end
end L2
namespace L2
open PySem PySem.Spec PySem.Calls PyProof.Rows SM
section
variable {X : Cx}
end
end L2
namespace SM
theorem gcdI_one (c : Int) : gcdI 1 c = 1 := by unfold gcdI; rw [Int.gcd_one_left]; rfl
end SM
namespace L2
open PySem PySem.Spec PySem.Calls PyProof.Rows SM
section
variable {prog : Program} {w : World} {A : Around} {E : Value → Shared → Prop} {s : Shared}
end
section
variable {X : Cx} {tg : Expr}
noncomputable def tRng (ta : TA) : TE := fun σ H Q => ta σ H fun vs H1 => ∃ j : Int, vs = [.int j] ∧ ∀ p, H1 p = none → Q (.ref p) (upd H1 p (.rng 0 j))
theorem tRng_ap {ta : TA} {σ : St} {H : Hp} {Q : VK} : tRng ta σ H Q = ta σ H fun vs H1 => ∃ j : Int, vs = [.int j] ∧ ∀ p, H1 p = none → Q (.ref p) (upd H1 p (.rng 0 j)) := rfl
noncomputable def iRevR (ta : TE) : TI := fun σ H R => ta σ H fun x H1 => ∃ (a : Addr) (n : Int), x = .ref a ∧ H1 a = some (.rng 0 n) ∧ 0 ≤ n ∧ n < 2 ^ 62 ∧ R (Its (n - 1) (-1) n.toNat) H1
theorem iRevR_ap {ta : TE} {R : It → Hp → Prop} {σ : St} {H : Hp} : iRevR ta σ H R = ta σ H fun x H1 => ∃ (a : Addr) (n : Int), x = .ref a ∧ H1 a = some (.rng 0 n) ∧ 0 ≤ n ∧ n < 2 ^ 62 ∧ R (Its (n - 1) (-1) n.toNat) H1 := rfl
end
end L2
namespace SM
end SM
namespace SM
end SM
namespace L2
open PySem PySem.Spec PySem.Calls PyProof.Rows SM
section
variable {X : Cx}
end
end L2
namespace L2
open PySem PySem.Spec PyProof.Rows SM
noncomputable abbrev Hd := List T3 × Int
noncomputable def Hds (H : Hp) (xs : List V) (hs : List Hd) : Prop := xs.length = hs.length ∧ ∀ (i : Nat) h, hs[i]? = some h → ∃ p a ys, xs[i]? = some (.ref p) ∧ H p = some (.tup [.ref a, .int h.2]) ∧ H a = some (.lst ys) ∧ Pl H ys h.1
theorem Hds.nil {H : Hp} : Hds H [] [] := ⟨rfl, fun i t e => by simp at e⟩
theorem Hds.same {H H' : Hp} {xs : List V} {hs : List Hd} (g : Same H H') (h : Hds H xs hs) : Hds H' xs hs := ⟨h.1, fun i t e => let ⟨p, a, ys, e1, e2, e3, e4⟩ := h.2 i t e; ⟨p, a, ys, e1, g _ _ e2, g _ _ e3, e4.same g⟩⟩
theorem Hds.at {H : Hp} {xs : List V} {hs : List Hd} (h : Hds H xs hs) {i : Nat} {x : V} (e : xs[i]? = some x) : ∃ p a ys t, hs[i]? = some t ∧ x = .ref p ∧ H p = some (.tup [.ref a, .int t.2]) ∧ H a = some (.lst ys) ∧ Pl H ys t.1 := by
  have hi := (List.getElem?_eq_some_iff.mp e).1
  rw [h.1] at hi
  refine L2.put_away fun G'1888x3 h'1888x3 => ?_
  obtain ⟨p, a, ys, e1, e2, e3, e4⟩ := h.2 i _ (List.getElem?_eq_getElem hi)
  refine h'1888x3 ?_
  rw [e] at e1
  cases e1
  exact ⟨p, a, ys, _, List.getElem?_eq_getElem hi, rfl, e2, e3, e4⟩
theorem Hds.snoc {H : Hp} {xs : List V} {hs : List Hd} {p a : Addr} {ys : List V} {t : Hd} (h : Hds H xs hs) (hp : H p = some (.tup [.ref a, .int t.2])) (ha : H a = some (.lst ys)) (hl : Pl H ys t.1) : Hds H (xs ++ [.ref p]) (hs ++ [t]) := by
  refine ⟨by simp [h.1], fun i u e => ?_⟩
  by_cases c : i < hs.length
  · rw [List.getElem?_append_left c] at e
    refine L2.put_away fun G'1889x4 h'1889x4 => ?_
    obtain ⟨p1, a1, ys1, e1, e2⟩ := h.2 i u e
    refine h'1889x4 ?_
    exact ⟨p1, a1, ys1, by rw [List.getElem?_append_left (by rw [h.1]; exact c)]; exact e1, e2⟩
  · rw [List.getElem?_append_right (by (clear hp e; omega))] at e
    have : i - hs.length = 0 := by
      have := (List.getElem?_eq_some_iff.mp e).1
      simp at this
      (clear hp e c; omega)
    rw [this] at e
    cases e
    refine ⟨p, a, ys, ?_, hp, ha, hl⟩
    rw [List.getElem?_append_right (by rw [h.1]; (clear hp this; omega)), h.1, this]
    rfl
theorem Hds.ix {H : Hp} {xs : List V} {hs : List Hd} (h : Hds H xs hs) {i : Int} (h0 : 0 ≤ i) (h1 : i < hs.length) : ∃ p a ys t, atI xs i = some (.ref p) ∧ hs[i.toNat]? = some t ∧ H p = some (.tup [.ref a, .int t.2]) ∧ H a = some (.lst ys) ∧ Pl H ys t.1 := by
  have hi : i.toNat < hs.length := by omega
  refine L2.put_away fun G'1893x2 h'1893x2 => ?_
  obtain ⟨p, a, ys, e1, e2, e3, e4⟩ := h.2 i.toNat _ (List.getElem?_eq_getElem hi)
  refine h'1893x2 ?_
  refine ⟨p, a, ys, _, ?_, List.getElem?_eq_getElem hi, e2, e3, e4⟩
  unfold atI ixN
  rw [if_pos h0, if_pos (by rw [h.1]; (clear h0 h'1893x2 e1 e2 h1; omega))]
  exact e1
noncomputable def era (H : Hp) (L : Addr) : Hp := fun a => if a = L then none else H a
theorem era_ne {H : Hp} {L a : Addr} (n : a ≠ L) : era H L a = H a := if_neg n
theorem era_le {H : Hp} {L : Addr} : Same (era H L) H := fun a o e => by
  unfold era at e
  split at e
  · cases e
  · exact e
theorem Same.era {H H' : Hp} {L : Addr} (g : Same H H') : Same (era H L) (era H' L) := fun a o e => by
  unfold L2.era at *
  split at e
  · cases e
  · rename_i n
    rw [if_neg n]
    exact g _ _ e
theorem era_upd {H : Hp} {L : Addr} {o : HO} : era (upd H L o) L = era H L := by
  funext a
  unfold era
  split
  · rfl
  · rename_i n
    exact upd_ne n
theorem Pl.era {H : Hp} {xs ys : List V} {ws : List T3} {L : Addr} (h : Pl H xs ws) (hL : H L = some (.lst ys)) : Pl (era H L) xs ws := ⟨h.1, fun i t e => by
  refine L2.put_away fun G'1900x1 h'1900x1 => ?_
  obtain ⟨p, e1, e2⟩ := h.2 i t e
  refine h'1900x1 ?_
  exact ⟨p, e1, by rw [era_ne (fun z => by rw [z, hL] at e2; cases e2)]; exact e2⟩⟩
theorem Hds.snocE {H : Hp} {xs : List V} {hs : List Hd} {p a L : Addr} {ys zs : List V} {t : Hd} {o : HO} (h : Hds (era H L) xs hs) (hL : H L = some (.lst zs)) (hp : H p = some (.tup [.ref a, .int t.2])) (ha : H a = some (.lst ys)) (n : a ≠ L) (hl : Pl H ys t.1) : Hds (era (upd H L o) L) (xs ++ [.ref p]) (hs ++ [t]) := by
  rw [era_upd]
  exact h.snoc (by rw [era_ne (fun z => by rw [z, hL] at hp; cases hp)]; exact hp) (by rw [era_ne n]; exact ha) (hl.era hL)
theorem cutV_drop (xs : List V) (n : Nat) : cutV xs (some (n : Int)) none = xs.drop n := by
  unfold cutV
  have e1 : HT.sIx xs.length xs.length none = xs.length := rfl
  have e2 : HT.sIx xs.length 0 (some (n : Int)) = min n xs.length := by
    unfold HT.sIx
    simp only
    split <;> (clear e1; omega)
  rw [e1, e2, List.take_of_length_le (by rw [List.length_drop]; (clear e1 e2; omega))]
  by_cases c : n ≤ xs.length
  · rw [Nat.min_eq_left c]
  · rw [Nat.min_eq_right (by (clear e1 e2; omega)), List.drop_length, List.drop_eq_nil_of_le (by (clear e1 e2; omega))]
noncomputable def dH (h : Hd) : PyData := .tuple [.list (h.1.map dW), .int h.2]
noncomputable def dHs (hs : List Hd) : PyData := .list (hs.map dH)
theorem Hds.dds {K : PySem.W.Frag} {H : Hp} : ∀ {hs : List Hd} {xs : List V}, Hds H xs hs → DDs K H xs (hs.map dH)
  | [], [], _ => .nil
  | [], _ :: _, h => by have := h.1; simp at this
  | _ :: _, [], h => by have := h.1; simp at this
  | t :: ws, x :: xs, h => by
    refine L2.put_away fun G'1908x5 h'1908x5 => ?_
    obtain ⟨p, a, ys, e1, e2, e3, e4⟩ := h.2 0 t rfl
    refine h'1908x5 ?_
    cases e1
    refine .cons (.tup (SqT.of e2) (.cons (e4.dd (SqL.of e3)) (.cons (.int _) .nil))) (Hds.dds ⟨by have := h.1; simpa using this, fun i u e => ?_⟩)
    have := h.2 (i + 1) u (by simpa using e)
    simpa using this
theorem Hds.dd {K : PySem.W.Frag} {H : Hp} {a : Addr} {hs : List Hd} {xs : List V} (hq : SqL K H a xs) (h : Hds H xs hs) : DD K H (.ref a) (dHs hs) := .lst hq h.dds
theorem eqv_dH (t u : Hd) : PyData.eqv (dH t) (dH u) = decide (t = u) := by
  obtain ⟨a, b⟩ := t
  obtain ⟨x, y⟩ := u
  unfold dH
  simp only [PyData.eqv, PyData.eqvAll, eqvAll_dW]
  by_cases h1 : a = x <;> by_cases h2 : b = y <;> simp [h1, h2]
theorem eqvAll_dH : ∀ ws vs : List Hd, PyData.eqvAll (ws.map dH) (vs.map dH) = decide (ws = vs)
  | [], [] => by simp [PyData.eqvAll]
  | [], _ :: _ => by simp [PyData.eqvAll]
  | _ :: _, [] => by simp [PyData.eqvAll]
  | t :: ws, u :: vs => by
    simp only [List.map_cons, PyData.eqvAll, eqv_dH, eqvAll_dH ws vs]
    by_cases h1 : t = u <;> by_cases h2 : ws = vs <;> simp [h1, h2]
theorem eqv_dHs (ws vs : List Hd) : PyData.eqv (dHs ws) (dHs vs) = decide (ws = vs) := by
  simp only [dHs, PyData.eqv]
  exact eqvAll_dH ws vs
theorem lay_dH : ∀ ws : List Hd, PyData.canLayAll0 (ws.map dH) = true ∧ PyData.depthAll (ws.map dH) ≤ 3
  | [] => by simp [PyData.canLayAll0, PyData.depthAll]
  | t :: ws => by
    have := lay_dH ws
    have l := lay_dW t.1
    simp only [List.map_cons, PyData.canLayAll0, PyData.depthAll, this.1, Bool.and_true]
    refine ⟨by simp [dH, PyData.canLay0, PyData.canLayAll0, l.1], ?_⟩
    have e : PyData.depth (dH t) ≤ 3 := by simp only [dH, PyData.depth, PyData.depthAll]; (clear this; omega)
    (clear l; omega)
section
variable {K : PySem.W.Frag} {H : Hp} {Q : VK} {a b : Addr} {xs ys : List V} {ws vs : List Hd}
end
section
variable {K : PySem.W.Frag} {H : Hp} {Q : VK} {a b : Addr} {ws vs : List (Option Int)}
end
end L2
namespace SM
open L2
end SM
namespace SM
open L2
end SM
namespace SM
open L2
end SM
namespace SM
end SM
namespace L2
open PySem PySem.Spec PyProof.Rows SM
section
variable {prog : Program} {w : World} {B : Around} {it : Addr} {fp wr : List Addr} {GG : Array GenState → Array GenState → Prop} {n : Nat} {PV : Nat → Value → Prop} {SV : Nat → Shared → Prop} {RR : Result → Shared → Prop}
end
section
variable {prog : Program} {w : World} {A : Around} {E : Value → Shared → Prop} {s : Shared}
end
section
variable {X : Cx}
end
end L2
namespace L2
open PySem PySem.Spec PyProof.Rows SM
section
variable {X : Cx}
theorem call_maxI (hc : X.calm = true) : CallR X (.builtin "max") (fun vs H Q => ∃ (a : Addr) (ns : List Int), vs = [.ref a] ∧ SqL X.K H a (ns.map V.int) ∧ ns ≠ [] ∧ ∀ M, M ∈ ns → (∀ z ∈ ns, z ≤ M) → Q (.int M) H) := by
  intro pins s σ H vs us Q I r h
  refine L2.put_away fun G'2016x2 h'2016x2 => ?_
  obtain ⟨a, ns, rfl, hq, hn, q⟩ := h
  refine h'2016x2 ?_
  refine L2.put_away fun G'2016x3 h'2016x3 => ?_
  obtain ⟨u, rfl, r1⟩ := Vals.one r
  refine h'2016x3 ?_
  cases r1
  refine L2.put_away fun G'2016x5 h'2016x5 => ?_
  obtain ⟨its, rv, pl, hz⟩ := I.list hq
  refine h'2016x5 ?_
  have hi : IntsAre its ns := intsAre_of rv
  obtain ⟨xs, ex⟩ := hi.allInts.items
  have hns : ns = xs.toList.map (·.1) := by rw [← hi.numsOf, ← nums_intItems, ← ex]
  have hsz : xs.size = ns.length := by rw [hns, List.length_map, Array.length_toList]
  have ln : 0 < ns.length := List.length_pos_iff.mpr hn
  have hl := pl.isList
  rw [ex] at hl
  have sz : (intItems xs).size = xs.size := by simp [intItems]
  refine call_max_walkS (iter_intList hl fun s2 e st hfp ne => ?_)
  have WS := (Walks.list (prog := X.prog) (w := X.w) (A := X.A.in1) (I.ok.hd hc) s.heap.objs.size a ne (intItems xs)).toS
  refine ⟨_, _, _, _, _, _, _, _, rfl, WS, st, hfp, by rw [sz]; (clear hn q hz hns e st hfp sz; omega), CmpOf.ints_gt (numAt xs) fun _ _ => intItems_at, fun v s' pv mv => ?_⟩
  subst e
  rw [sz] at pv
  obtain ⟨t, rfl⟩ := intItems_at pv
  obtain ⟨b1, b2⟩ := argBest_gt (numAt xs) (xs.size - 1)
  rw [Moved.eq_with mv]
  refine ⟨.int _, H, I.kept fun b o e => mv.heap b o (fun z => ?_) (Heap.get?_push_of_some _ e), ⟨t, rfl⟩, q _ ?_ fun y hy => ?_⟩
  · exact absurd (Heap.lt_size e) (by rw [List.mem_singleton.mp z]; exact Nat.lt_irrefl _)
  · rw [hns, numAt_eq]; exact getD_mem (by rw [List.length_map, Array.length_toList]; (clear hn q hz hns st hfp pv b2 sz; omega))
  · rw [hns] at hy
    refine L2.put_away fun G'2016x26 h'2016x26 => ?_
    obtain ⟨j, hj, rfl⟩ := mem_getD hy
    refine h'2016x26 ?_
    rw [List.length_map, Array.length_toList] at hj
    rw [← numAt_eq]
    exact b2 j (by (clear hn q hz hns st hfp pv b1 b2 h'2016x26 sz ln hsz; omega))
end
end L2
namespace L2
open PySem PySem.Spec PyProof.Rows SM
section
variable {prog : Program} {w : World} {B : Around} {E : Value → Shared → Prop} {s : Shared}
end
section
variable {prog : Program} {w : World} {B : Around} {E : Value → Shared → Prop} {s : Shared}
end
noncomputable def okET (K : PySem.W.Frag) (a : Addr) (n : Nat) (H : Hp) : Prop := ∃ xs, SqT K H a xs ∧ xs.length = n
noncomputable def IteT (K : PySem.W.Frag) (a : Addr) (n : Nat) : It := Itp n (okET K a n) fun i H u v => u = .int i ∧ ∀ xs, SqT K H a xs → xs[i]? = some v
noncomputable def iEnumT (K : PySem.W.Frag) (ta : TE) : TI := fun σ H R => ta σ H fun x H1 => ∃ a xs, x = .ref a ∧ SqT K H1 a xs ∧ R (IteT K a xs.length) H1
section
variable {X : Cx} {es : List Expr} {k : Nat} {tpos : Pos}
end
theorem iEnumT_ap {K : PySem.W.Frag} {ta : TE} {σ : St} {H : Hp} {R : It → Hp → Prop} : iEnumT K ta σ H R = ta σ H fun x H1 => ∃ a xs, x = .ref a ∧ SqT K H1 a xs ∧ R (IteT K a xs.length) H1 := rfl
end L2
namespace L2
open PySem PySem.Spec PyProof.Rows SM
section
variable {X : Cx}
end
end L2
namespace L2
open PySem PySem.Spec PyProof.Rows SM
noncomputable def Asc (z : Str) : Prop := z.cps.all (· < 128) = true
noncomputable def Itc (z : Str) : It := ⟨fun i _ => i < z.cps.size, fun i H x H' => H' = H ∧ ∃ c, z.cps[i]? = some c ∧ x = .str ⟨#[c]⟩, fun i _ => z.cps.size ≤ i⟩
noncomputable def iStr (tl : TE) : TI := fun σ H R => tl σ H fun x H1 => ∃ z, x = .str z ∧ Asc z ∧ R (Itc z) H1
theorem iStr_ap {tl : TE} {σ : St} {H : Hp} {R : It → Hp → Prop} : iStr tl σ H R = tl σ H fun x H1 => ∃ z, x = .str z ∧ Asc z ∧ R (Itc z) H1 := rfl
section
variable {X : Cx} {tg : Expr}
end
end L2
namespace SM
open L2 PySem PySem.Builtin.Str
end SM
namespace L2
open PySem PySem.Spec PyProof.Rows
noncomputable def Rises (l : List Nat) : Prop := l.Pairwise (· < ·)
theorem Rises.lt {l : List Nat} (h : Rises l) {i k x y : Nat} (hi : l[i]? = some x) (hk : l[k]? = some y) (hik : i < k) : x < y := by
  obtain ⟨h1, rfl⟩ := List.getElem?_eq_some_iff.mp hi
  obtain ⟨h2, rfl⟩ := List.getElem?_eq_some_iff.mp hk
  exact List.pairwise_iff_getElem.mp h i k h1 h2 hik
theorem below_go {xs : Array Nat} {j : Nat} (h : Rises xs.toList) : ∀ (f lo hi : Nat), lo ≤ hi → hi ≤ xs.size → hi - lo ≤ f → (∀ k x, k < lo → xs[k]? = some x → x < j) → (∀ k x, hi ≤ k → xs[k]? = some x → j ≤ x) →
    SetTable.below.go xs j f lo hi ≤ xs.size ∧ (∀ k x, k < SetTable.below.go xs j f lo hi → xs[k]? = some x → x < j) ∧ ∀ k x, SetTable.below.go xs j f lo hi ≤ k → xs[k]? = some x → j ≤ x
  | 0, lo, hi, h1, h2, h3, a, b => by
    have : lo = hi := by (clear h2 a b; omega)
    subst this
    exact ⟨h2, a, b⟩
  | f + 1, lo, hi, h1, h2, h3, a, b => by
    unfold SetTable.below.go
    split
    · rename_i hlt
      have hm : (lo + hi) / 2 < xs.size := by (clear h1 h3 a b; omega)
      have em : xs[(lo + hi) / 2]? = some xs[(lo + hi) / 2] := by simp [hm]
      have eg : xs.getD ((lo + hi) / 2) j = xs[(lo + hi) / 2] := by simp [Array.getD, hm]
      dsimp only
      rw [eg]
      split
      · rename_i c
        refine below_go h f _ hi (by (clear h1 h2 h3 a b em eg c; omega)) h2 (by (clear h1 h2 a b em eg c hlt; omega)) (fun k x hk e => ?_) b
        by_cases z : k = (lo + hi) / 2
        · subst z
          rw [em] at e
          cases e
          exact c
        · exact Nat.lt_trans (h.lt (by rw [Array.getElem?_toList]; exact e) (by rw [Array.getElem?_toList]; exact em) (by (clear h1 h2 h3 a b hlt em eg c e; omega))) c
      · rename_i c
        refine below_go h f lo _ (by (clear h1 h2 h3 a b em eg c; omega)) (by (clear h1 h2 h3 a b hlt em eg c; omega)) (by (clear h1 h2 a b em eg c hlt; omega)) a (fun k x hk e => ?_)
        by_cases z : k = (lo + hi) / 2
        · subst z
          rw [em] at e
          cases e
          (clear h1 h2 h3 a b hlt em eg hk; omega)
        · have := h.lt (by rw [Array.getElem?_toList]; exact em) (by rw [Array.getElem?_toList]; exact e) (show (lo + hi) / 2 < k by (clear h1 h2 h3 a b hlt em eg c e; omega))
          (clear h1 h2 h3 a b hlt em eg hk e z; omega)
    · have : lo = hi := by (clear h2 h3 a b; omega)
      subst this
      exact ⟨h2, a, b⟩
theorem below_is {xs : Array Nat} (h : Rises xs.toList) (j : Nat) : SetTable.below xs j ≤ xs.size ∧ (∀ k x, k < SetTable.below xs j → xs[k]? = some x → x < j) ∧ ∀ k x, SetTable.below xs j ≤ k → xs[k]? = some x → j ≤ x :=
  below_go h xs.size 0 xs.size (Nat.zero_le _) (Nat.le_refl _) (by omega) (fun k x hk => by omega) fun k x hk e => by
    have := (Array.getElem?_eq_some_iff.mp e).1
    (clear e; omega)
theorem below_next {xs : Array Nat} (h : Rises xs.toList) {i x : Nat} (e : xs[i]? = some x) : SetTable.below xs (x + 1) = i + 1 := by
  refine L2.put_away fun G'2109x1 h'2109x1 => ?_
  obtain ⟨a, b, c⟩ := below_is h (x + 1)
  refine h'2109x1 ?_
  have hi := (Array.getElem?_eq_some_iff.mp e).1
  by_cases z1 : SetTable.below xs (x + 1) ≤ i
  · have := c i x z1 e
    (clear e h'2109x1 a b c hi z1; omega)
  by_cases z2 : i + 1 < SetTable.below xs (x + 1)
  · have hk : i + 1 < xs.size := by (clear e h'2109x1 b c z1 hi; omega)
    have e2 : xs[i + 1]? = some xs[i + 1] := by simp [hk]
    have h1 := b (i + 1) _ z2 e2
    have h2 := h.lt (by rw [Array.getElem?_toList]; exact e) (by rw [Array.getElem?_toList]; exact e2) (Nat.lt_succ_self i)
    (clear e h'2109x1 a b c hi z1 z2 e2; omega)
  (clear e h'2109x1 a b c hi; omega)
theorem below_zero {xs : Array Nat} (h : Rises xs.toList) : SetTable.below xs 0 = 0 := by
  refine L2.put_away fun G'2110x1 h'2110x1 => ?_
  obtain ⟨a, b, c⟩ := below_is h 0
  refine h'2110x1 ?_
  by_cases z : 0 < SetTable.below xs 0
  · have hk : 0 < xs.size := by (clear h'2110x1 b c; omega)
    have e2 : xs[0]? = some xs[0] := by simp [hk]
    have := b 0 _ z e2
    (clear h'2110x1 a b c z e2; omega)
  (clear h'2110x1 a b c; omega)
theorem below_mem {xs : Array Nat} (h : Rises xs.toList) {j : Nat} (m : j ∈ xs.toList) : xs[SetTable.below xs j]? = some j := by
  refine L2.put_away fun G'2111x1 h'2111x1 => ?_
  obtain ⟨i, hi, e⟩ := List.mem_iff_getElem.mp m
  refine h'2111x1 ?_
  have e1 : xs[i]? = some j := by rw [← Array.getElem?_toList, List.getElem?_eq_getElem hi, e]
  refine L2.put_away fun G'2111x3 h'2111x3 => ?_
  obtain ⟨a, b, c⟩ := below_is h j
  refine h'2111x3 ?_
  by_cases z1 : i < SetTable.below xs j
  · have := b i j z1 e1
    (clear h'2111x1 e e1 h'2111x3 a b c z1; omega)
  by_cases z2 : SetTable.below xs j = i
  · rw [z2]; exact e1
  have hk : SetTable.below xs j < xs.size := by
    have := (Array.getElem?_eq_some_iff.mp e1).1
    (clear h'2111x1 e e1 h'2111x3 b c z2 a; omega)
  have e2 : xs[SetTable.below xs j]? = some xs[SetTable.below xs j] := by simp [hk]
  have h1 := c _ _ (Nat.le_refl _) e2
  have h2 := h.lt (by rw [Array.getElem?_toList]; exact e2) (by rw [Array.getElem?_toList]; exact e1) (show SetTable.below xs j < i by (clear h'2111x1 e e1 h'2111x3 a b c e2 h1; omega))
  (clear h'2111x1 e e1 h'2111x3 a b c z1 z2 e2; omega)
theorem rises_insert {xs : Array Nat} (h : Rises xs.toList) {j : Nat} (m : j ∉ xs.toList) : Rises (SetTable.insertAt xs (SetTable.below xs j) j).toList := by
  refine L2.put_away fun G'2112x1 h'2112x1 => ?_
  obtain ⟨a, b, c⟩ := below_is h j
  refine h'2112x1 ?_
  rw [SetTable.toList_insertAt]
  generalize SetTable.below xs j = p at a b c
  have hb : ∀ x ∈ xs.toList.take p, x < j := fun x hx => by
    refine L2.put_away fun G'2112x5 h'2112x5 => ?_
    obtain ⟨i, hi, e⟩ := List.mem_iff_getElem.mp hx
    refine h'2112x5 ?_
    rw [List.getElem_take] at e
    rw [List.length_take] at hi
    exact b i x (by (clear m h'2112x1 a b c h'2112x5 e; omega)) (by rw [← Array.getElem?_toList, List.getElem?_eq_getElem (by (clear m h'2112x1 a b c h'2112x5 e; omega)), e])
  have hc : ∀ x ∈ xs.toList.drop p, j < x := fun x hx => by
    refine L2.put_away fun G'2112x10 h'2112x10 => ?_
    obtain ⟨i, hi, e⟩ := List.mem_iff_getElem.mp hx
    refine h'2112x10 ?_
    rw [List.getElem_drop] at e
    rw [List.length_drop] at hi
    have h1 := c (p + i) x (by (clear m h'2112x1 a b c hb h'2112x10 hi e; omega)) (by rw [← Array.getElem?_toList, List.getElem?_eq_getElem (by (clear m h'2112x1 a b c hb h'2112x10 e; omega)), e])
    have h2 : x ≠ j := fun z => m (z ▸ List.mem_of_mem_drop hx)
    (clear m h'2112x1 a b c hb h'2112x10 hi e; omega)
  unfold Rises at h ⊢
  refine List.pairwise_append.mpr ⟨h.sublist (List.take_sublist _ _), List.pairwise_cons.mpr ⟨hc, h.sublist (List.drop_sublist _ _)⟩, fun x hx y hy => ?_⟩
  rcases List.mem_cons.mp hy with rfl | hy
  · exact hb x hx
  · exact Nat.lt_trans (hb x hx) (hc y hy)
theorem slot_free {t : SetTable} (h : Rises t.place.toList) {j : Nat} (e : ∀ i, t.slot j ≠ .live i) : j ∉ t.place.toList := fun m => by
  have := below_mem h m
  unfold SetTable.slot at e
  simp [this] at e
theorem probe_free {t : SetTable} (h : Rises t.place.toList) {ha : Nat → Int} {z : Int} : ∀ (f : Nat) (p : SetTable.Probe) (j : Nat) (dm : Option Nat), (∀ d, p.dummy = some d → d ∉ t.place.toList) → SetTable.probe.go t ha z f p = some (.empty j dm) → j ∉ t.place.toList ∧ ∀ d, dm = some d → d ∉ t.place.toList
  | 0, p, j, dm, _, e => by simp [SetTable.probe.go] at e
  | f + 1, p, j, dm, hp, e => by
    have adv : ∀ q : SetTable.Probe, (t.advance q).dummy = q.dummy := fun q => by
      unfold SetTable.advance
      split <;> rfl
    unfold SetTable.probe.go at e
    cases es : t.slot p.j with
    | empty =>
      rw [es] at e
      cases e
      exact ⟨slot_free h (fun i z => by rw [es] at z; cases z), hp⟩
    | dummy =>
      rw [es] at e
      refine probe_free h f _ j dm (fun d hd => ?_) e
      rw [adv] at hd
      cases hd
      exact slot_free h fun i z => by rw [es] at z; cases z
    | live i =>
      rw [es] at e
      dsimp only at e
      split at e
      · cases e
      · exact probe_free h f _ j dm (fun d hd => hp d (by rw [adv] at hd; exact hd)) e
theorem freeSlot_free {t : SetTable} (h : Rises t.place.toList) {z : Int} {j : Nat} {b : Bool} (e : t.freeSlot z = some (j, b)) : j ∉ t.place.toList := by
  unfold SetTable.freeSlot at e
  split at e
  · rename_i jj dm hq
    injection e with e
    injection e with e1 e2
    obtain ⟨a, c⟩ := probe_free h _ _ _ _ (fun d hd => by simp [SetTable.probeStart] at hd) hq
    subst e1
    cases dm with
    | none => exact a
    | some d => exact c d rfl
  · cases e
noncomputable def TabOk (led : Bool) (t : SetTable) : Prop := t.led = led ∧ (t.plain = true → Rises t.place.toList)
theorem tab_stand {led : Bool} {t : SetTable} {n : Nat} (h : TabOk led t) : TabOk led (t.standIn n) := ⟨h.1, fun z => by simp [SetTable.standIn] at z⟩
theorem tab_or {led : Bool} {t : SetTable} {n : Nat} (h : TabOk led t) : TabOk led (t.orStandIn n) := by
  unfold SetTable.orStandIn
  split
  · exact h
  · exact tab_stand h
theorem tab_lay {led : Bool} {t : SetTable} (h : TabOk led t) (es : Array (Int × Value)) (z : Int) (x : Value) : TabOk led (layNew t es z x).2.1 := by
  unfold layNew
  split
  · rename_i j b e
    refine tab_or ⟨h.1, fun hp => ?_⟩
    exact rises_insert (h.2 hp) (freeSlot_free (h.2 hp) e)
  · exact tab_stand h
theorem rises_live (n : Nat) (f : Nat → Option Nat) : Rises (((List.range n).filterMap fun j => (f j).map (j, ·)).map (·.1)) := by
  have : List.Sublist (((List.range n).filterMap fun j => (f j).map (j, ·)).map (·.1)) (List.range n) := by
    generalize List.range n = l
    induction l with
    | nil => simp
    | cons a l ih =>
      cases e : f a with
      | none => simp only [List.filterMap_cons, e, Option.map_none]; exact ih.trans (List.sublist_cons_self _ _)
      | some v => simp only [List.filterMap_cons, e, Option.map_some, List.map_cons]; exact ih.cons₂ a
  exact (List.pairwise_lt_range (n := n)).sublist this
theorem tab_relay {led : Bool} {t : SetTable} (h : TabOk led t) (es : Array (Int × Value)) (n : Nat) : TabOk led (relayAll t es n).2.1 := by
  unfold relayAll
  split
  · rename_i t' order e
    dsimp only
    split
    · unfold SetTable.relaid SetTable.laid at e
      simp only [bind, Option.bind] at e
      split at e
      · cases e
      · rename_i ow _
        cases e
        refine ⟨h.1, fun _ => ?_⟩
        dsimp only
        exact rises_live _ _
    · exact tab_stand h
  · exact tab_stand h
end L2
namespace L2
open PySem PySem.Spec PyProof.Rows
section
variable {prog : Program} {w : World}
noncomputable def ledOf (w : World) : Bool := !w.params.followText "set-order"
noncomputable def SetG (prog : Program) (w : World) (h : Heap) (a : Addr) (S : Int → Bool) (n : Nat) : Prop :=
  ∃ o es ep t, h.get? a = some o ∧ o.ExactSet ∧ o.data = .set es ep t ∧ ElemsOf (intKind prog w) es.toList ∧ (∀ k, S k = true ↔ ∃ e ∈ es.toList, (intKind prog w).is k e.2 = true) ∧ es.size < scanBound ∧ t.fits es.size = true ∧ es.size = n ∧ TabOk (ledOf w) t
theorem SetG.keep {h h' : Heap} {a : Addr} {S : Int → Bool} {n : Nat} (x : SetG prog w h a S n) (k : ∀ o, h.get? a = some o → h'.get? a = some o) : SetG prog w h' a S n :=
  let ⟨o, es, ep, t, e, r⟩ := x
  ⟨o, es, ep, t, k _ e, r⟩
theorem SetG.congr {h : Heap} {a : Addr} {S S' : Int → Bool} {n n' : Nat} (x : SetG prog w h a S n) (e : ∀ k, S k = S' k) (en : n = n') : SetG prog w h a S' n' := by
  have : S = S' := funext e
  subst this en
  exact x
variable {A : Around} {E : Value → Shared → Prop} {s : Shared}
theorem setG_store {h : Heap} {a : Addr} {o : Obj} {es : Array (Int × Value)} {ep : Nat} {t : SetTable} (ho : h.get? a = some o) (hex : o.ExactSet) (hd : o.data = .set es ep t) {es' : Array (Int × Value)} {t' : SetTable} {S' : Int → Bool}
    (hel : ElemsOf (intKind prog w) es'.toList) (hmem : ∀ k, S' k = true ↔ ∃ e ∈ es'.toList, (intKind prog w).is k e.2 = true) (hb : es'.size < scanBound) (hf : t'.fits es'.size = true) (ht : TabOk (ledOf w) t') :
    (h.update a (Obj.putSet es' t')).get? a = some { o with data := .set es' (ep + 1) t' } ∧ SetG prog w (h.update a (Obj.putSet es' t')) a S' es'.size := by
  have hg := (SetOf_store (knd := intKind prog w) ho hex hd hel hmem hb hf).1
  exact ⟨hg, _, es', ep + 1, t', hg, hex, rfl, hel, hmem, hb, hf, rfl, ht⟩
theorem setG_add {a : Addr} {S : Int → Bool} {n : Nat} {k : Int} {tk : Tok} {Q : Bool → Shared → Prop} (hS : SetG prog w s.heap a S n) (hroom : n + 1 < scanBound)
    (h : ∀ h' b, Heap.SameBut a s.heap h' → SetG prog w h' a (fun k' => S k' || decide (k' = k)) (if S k then n else n + 1) → Q b { s with heap := h' }) :
    wpAny (model prog w) A (setAddHashed a (.int k tk) ((intKind prog w).hash k)) Q E s := by
  have hkey : (intKind prog w).is k (.int k tk) = true := intKind_is _ _ _ _
  have hsc : (Value.int k tk).scannable = true := rfl
  refine L2.put_away fun G'2135x5 h'2135x5 => ?_
  obtain ⟨o, es, ep, t, ho, hex, hd, hel, hmem, hb, hf, rfl, ht⟩ := hS
  refine h'2135x5 ?_
  unfold setAddHashed setAddHashedIn
  refine wpAny_holding (wpAny_bind (wpAny_setState_of ho hd hf ?_))
  dsimp only
  rw [byScan_of hsc hb hel, if_pos rfl]
  unfold setAddByScan
  refine wpAny_bind (wpAny_bind (wpAny_rule (wpAny_bind (wpAny_setScan_of hkey ho hd hf hel ?_))))
  cases hr : List.findIdx? (fun e => (intKind prog w).is k e.2) es.toList with
  | some j =>
    refine L2.put_away fun G'2135x14 h'2135x14 => ?_
    obtain ⟨hj, hpj, _⟩ := List.findIdx?_eq_some_iff_getElem.mp hr
    refine h'2135x14 ?_
    have hSk : S k = true := (hmem k).mpr ⟨es.toList[j], List.getElem_mem hj, hpj⟩
    refine wpAny_pure (wpAny_pure ?_)
    have e : s = { s with heap := s.heap } := by cases s; rfl
    rw [e]
    refine h s.heap _ (Heap.SameBut.refl a s.heap) ⟨o, es, ep, t, ho, hex, hd, hel, fun k' => ?_, hb, hf, by rw [if_pos hSk], ht⟩
    rw [Bool.or_eq_true, decide_eq_true_eq, ← hmem k']
    exact ⟨fun z => z.elim id fun z => z ▸ hSk, .inl⟩
  | none =>
    have hSk : ¬ S k = true := fun z => by
      refine L2.put_away fun G'2135x24 h'2135x24 => ?_
      obtain ⟨e, he, hp⟩ := (hmem k).mp z
      refine h'2135x24 ?_
      have := List.findIdx?_eq_none_iff.mp hr e he
      rw [hp] at this
      cases this
    have hperm := layNew_perm t es ((intKind prog w).hash k) (.int k tk)
    have hfits := layNew_fits t es ((intKind prog w).hash k) (.int k tk)
    have htab := tab_lay ht es ((intKind prog w).hash k) (.int k tk)
    dsimp only
    generalize layNew t es ((intKind prog w).hash k) (.int k tk) = L at hperm hfits htab ⊢
    refine L2.put_away fun G'2135x33 h'2135x33 => ?_
    obtain ⟨es1, t1, wd, gave⟩ := L
    refine h'2135x33 ?_
    dsimp only at hperm hfits htab ⊢
    rw [Array.toList_push] at hperm
    have hel1 : ElemsOf (intKind prog w) es1.toList := (hel.push hkey hsc).perm hperm
    have hmem1 : ∀ k', (S k' || decide (k' = k)) = true ↔ ∃ e ∈ es1.toList, (intKind prog w).is k' e.2 = true := mem_push_iff hkey hmem hperm
    have hsz1 : es1.size = es.size + 1 := by rw [← Array.length_toList, hperm.length_eq, List.length_append, Array.length_toList]; rfl
    have hb1 : es1.size < scanBound := by (clear hkey h'2135x5 hmem hb hf h hr hfits h'2135x33 hmem1; omega)
    have fin : ∀ h' b, Heap.SameBut a s.heap h' → SetG prog w h' a (fun k' => S k' || decide (k' = k)) es1.size → Q b { s with heap := h' } := fun h' b hsb hS' => h h' b hsb (by rw [if_neg hSk, ← hsz1]; exact hS')
    have hby : hashByValue 8 (.int k tk) = pure true := hashByValue_scannable 8 hsc
    refine wpAny_bind ?_
    have g1 : ∀ (b : Bool) (s₁ : Shared) (Q' : Unit → Shared → Prop), Q' () s₁ → wpAny (model prog w) A (match b with | true => rule "set.scan.the-table-gave-way" | false => pure ()) Q' E s₁ := fun b s₁ Q' hq => by cases b <;> first | exact wpAny_pure hq | exact wpAny_rule hq
    refine g1 gave _ _ ?_
    have tail : ∀ t2 : SetTable, t2.fits es1.size = true → TabOk (ledOf w) t2 → wpAny (model prog w) A (do
        storeSet a es1 t2
        if (!wd && t2.tooFull) = true then do
            (match (relayAll t2 es1 (SetTable.grown es1.size)).2.2 with | true => rule "set.scan.the-table-gave-way" | false => pure ())
            storeSet a (relayAll t2 es1 (SetTable.grown es1.size)).1 (relayAll t2 es1 (SetTable.grown es1.size)).2.1
            pure (some true)
          else pure (some true)) (fun (r : Option Bool) s' => wpAny (model prog w) A (match r with | some added => pure added | none => setAddHashedIn a (.int k tk) ((intKind prog w).hash k) 99999) Q E s') E s := by
      intro t2 hf2 ht2
      obtain ⟨ho1, hS1⟩ := setG_store ho hex hd hel1 hmem1 hb1 hf2 ht2
      have hsb1 := Heap.SameBut.update s.heap a (Obj.putSet es1 t2)
      refine wpAny_bind (wpAny_storeSet_of ho hd ?_ (fits_of_scanBound hb1))
      split
      · have hp := relayAll_perm t2 es1 (SetTable.grown es1.size)
        have hfr := relayAll_fits t2 es1 (SetTable.grown es1.size)
        have htr := tab_relay ht2 es1 (SetTable.grown es1.size)
        generalize relayAll t2 es1 (SetTable.grown es1.size) = Rl at hp hfr htr ⊢
        refine L2.put_away fun G'2135x61 h'2135x61 => ?_
        obtain ⟨es2, t3, gave2⟩ := Rl
        refine h'2135x61 ?_
        dsimp only at hp hfr htr ⊢
        have hsz : es2.size = es1.size := by rw [← Array.length_toList, hp.length_eq, Array.length_toList]
        have hb2 : es2.size < scanBound := by (clear hkey h'2135x5 hmem hb hf h hr hfits h'2135x33 hmem1 hb1 fin hby hf2 ho1 hfr h'2135x61; omega)
        refine wpAny_bind (g1 _ _ _ (wpAny_bind (wpAny_storeSet_of ho1 rfl ?_ (fits_of_scanBound hb2))))
        obtain ⟨_, hS2⟩ := setG_store ho1 hex rfl (hel1.perm hp) (fun k' => (hmem1 k').trans ⟨fun ⟨e, he, q⟩ => ⟨e, hp.mem_iff.mpr he, q⟩, fun ⟨e, he, q⟩ => ⟨e, hp.mem_iff.mp he, q⟩⟩) hb2 hfr htr
        rw [hsz] at hS2
        exact wpAny_pure (wpAny_pure (fin _ _ (hsb1.trans (Heap.SameBut.update _ a _)) hS2))
      · exact wpAny_pure (wpAny_pure (fin _ _ hsb1 hS1))
    split
    · refine wpAny_bind ?_
      rw [hby]
      refine wpAny_pure ?_
      refine tail _ ?_ ?_
      · exact hfits
      · exact htab
    · refine wpAny_bind (wpAny_pure ?_)
      exact tail _ hfits htab
end
end L2
namespace L2
open PySem PySem.Spec PyProof.Rows
section
variable {prog : Program} {w : World} {A : Around}
theorem setG_loop {R : Result → Shared → Prop} {I : Addr} {fp wr : List Addr} {G : Array GenState → Array GenState → Prop} {n : Nat} {P : Nat → Value → Prop} {St : Nat → Shared → Prop} (W : WalksS prog w A.in1 I fp wr G n P St) (S : Addr) (hSf : S ∉ fp)
    (val : Nat → Int) (hval : ∀ i v, P i v → ∃ t, v = .int (val i) t) (hb : n + 1 < scanBound) : ∀ (k i : Nat) (s : Shared), n - i = k → i ≤ n → St i s →
      SetG prog w s.heap S (fun k' => (firstMet val i).any (· == k')) (firstMet val i).length →
      (∀ s', Moved (S :: wr) G s s' → SetG prog w s'.heap S (fun k' => (firstMet val n).any (· == k')) (firstMet val n).length → R (.ok (.ret .none)) s') →
      codeAny (model prog w) A (.builtin "set.update.loop" ⟨[.ref S, .ref I], []⟩) R s := by
  have hSw : S ∉ wr := fun h => hSf (W.sub _ h)
  have hsub : ∀ b ∈ wr, b ∈ S :: wr := fun b hb => List.mem_cons_of_mem _ hb
  intro k
  induction k with
  | zero =>
    intro i s hk hi hst hS hR
    obtain rfl : i = n := by (clear hval hb hR; omega)
    refine codeAny_builtin PyProof.Rows.F.entry_set_update_loop ?_
    rw [Around.under_plainId PyProof.Rows.F.plain_set_update_loop _]
    refine wpAny_bind (m := pyNext (.ref I)) (W.done s _ _ hst fun s' hm => ?_)
    exact wpAny_pure (hR s' (hm.mono hsub) (hS.keep fun o e => hm.heap S _ hSw e))
  | succ k ih =>
    intro i s hk hi hst hS hR
    have hlt : i < n := by (clear hval hb ih hR hi; omega)
    refine codeAny_builtin PyProof.Rows.F.entry_set_update_loop ?_
    rw [Around.under_plainId PyProof.Rows.F.plain_set_update_loop _]
    refine wpAny_bind (m := pyNext (.ref I)) (W.item i s _ _ hlt hst fun v s' hP hst' hm => ?_)
    obtain ⟨t, rfl⟩ := hval i v hP
    have hS' := hS.keep fun o e => hm.heap S _ hSw e
    have hroom : (firstMet val i).length + 1 < scanBound := by have := firstMet_length_le val i; (clear hval ih hk hi hR; omega)
    refine wpAny_bind (m := holding [Value.int (val i) t] (setAdd S (.int (val i) t))) (wpAny_holding ?_)
    unfold setAdd
    refine wpAny_holding (wpAny_bind ((intKind prog w).pyHash (k := val i) (intKind_is _ _ _ _) ?_))
    refine setG_add (s := { s' with toks := s'.toks + 1 }) hS' hroom fun h' b hsb hS2 => ?_
    have hSi : SetG prog w h' S (fun k' => (firstMet val (i + 1)).any (· == k')) (firstMet val (i + 1)).length := hS2.congr (fun k' => by rw [firstMet_succ, step_any]) (by rw [firstMet_succ, step_length])
    refine wpAny_pure ⟨plainId_quiet PyProof.Rows.F.plain_set_update_loop _, ih (i + 1) _ (by (clear hval hb ih hi hR hroom hlt; omega)) hlt (W.frame _ s' _ _ hst' (Nat.le_succ _) fun b hb o e => ?_) hSi fun s'' hm'' hS'' => ?_⟩
    · rw [hsb.2 b (fun h : b = S => hSf (by rw [← h]; exact hb))]; exact e
    · refine hR s'' (Moved.trans W.gtrans ((hm.mono hsub).then_heap (Nat.le_succ _) fun b o hb e => ?_) hm'') hS''
      rw [hsb.2 b (fun h : b = S => hb (by rw [h]; exact List.mem_cons_self))]; exact e
theorem new_setG {a : Value} {E : Value → Shared → Prop} {s : Shared} {Q₁ : Value → Shared → Prop}
    (h : Q₁ (.ref s.heap.objs.size) { s with heap := s.heap.push { cls := .type "set", dict := none, data := .set #[] 0 (.fresh 0 0 (ledOf w)) } }) :
    codeAny (model prog w) A (.call (.builtin "set.__new__") ⟨[.type "set", a], []⟩) (wants Q₁ E) s := by
  refine codeAny_of_tree ?_
  refine wpAny_bind (m := checkBuiltinCall "set.__new__" ⟨[.type "set", a], []⟩) (wpAny_of_eq (PySem.F.newCall_set_1 a) (wpAny_pure ⟨plainId_quiet PySem.F.plain_set_new _, codeAny_builtin PySem.F.entry_set_new ?_⟩))
  rw [Around.under_plainId PySem.F.plain_set_new _]
  unfold Builtin.«set.__new__» Builtin.Frozenset.newClass
  have hsub := sub_set_self
  refine L2.put_away fun G'2144x8 h'2144x8 => ?_
  obtain ⟨hp, g, d, tk, os⟩ := s
  refine h'2144x8 ?_
  dsimp only
  wp_walk
  refine wpAny_askSetting (wpAny_pure ?_)
  dsimp only
  simp only [newObj]
  refine wpAny_bind (wpAny_alloc (wpAny_pure ?_))
  exact wpAny_pure h
end
end L2
namespace L2
open PySem PySem.Spec PyProof.Rows
section
variable {prog : Program} {w : World} {A : Around} {E : Value → Shared → Prop} {s : Shared}
theorem init_setG {l : Addr} {items : Array Value} {ns : List Int} {s1 : Shared} {S : Addr} {R : Result → Shared → Prop} (hh : A.handled = none) (hl : s1.heap.IsList l items) (hi : IntsAre items.toList ns) (hb : items.size + 1 < scanBound) (hlS : l ≠ S)
    (hS : s1.heap.get? S = some { cls := .type "set", dict := none, data := .set #[] 0 (.fresh 0 0 (ledOf w)) })
    (h : ∀ (h' : Heap) (tk : Nat), SetG prog w h' S (fun k' => (firstMet (fun i => ns.getD i 0) items.size).any (· == k')) (firstMet (fun i => ns.getD i 0) items.size).length →
      (∀ b o, b ≠ S → s1.heap.get? b = some o → h'.get? b = some o) → R (.ok (.ret .none)) { s1 with heap := h', toks := tk }) :
    wpAny (model prog w) A.in1 (Builtin.«set.__init__» ⟨[.ref S, .ref l], []⟩) (fun fin s' => match fin with | .done f => R (.ok f) s' | .again c' => c'.quiet = true ∧ codeAny (model prog w) A c' R s') (fun e s' => R (.error e) s') s1 := by
  have hT : s1.TypeIs (.ref S) "set" := ⟨_, hS, rfl⟩
  have hS0 : SetG prog w s1.heap S (fun _ => false) 0 := ⟨_, #[], 0, _, hS, ⟨rfl, rfl, rfl⟩, rfl, (fun e he => by simp at he), (fun k => by simp), by decide, rfl, rfl, rfl, fun _ => by simp [SetTable.fresh, Rises]⟩
  refine L2.put_away fun G'2151x7 h'2151x7 => ?_
  obtain ⟨ol, hol, hcl, nl, hdl⟩ := id hl
  refine h'2151x7 ?_
  refine L2.put_away fun G'2151x8 h'2151x8 => ?_
  obtain ⟨ocls, odict, odata, oslots⟩ := ol
  refine h'2151x8 ?_
  simp only at hcl hdl
  subst hcl hdl
  have hsls := PySem.F.sub_list_set
  have hslf := PySem.F.sub_list_frozenset
  have hne : (Value.type "list" == Value.type "dict") = false := by decide
  have hneS : S ≠ s1.heap.objs.size := Nat.ne_of_lt (Heap.lt_size hS)
  have hneI : l ≠ s1.heap.objs.size := Nat.ne_of_lt (Heap.lt_size hol)
  have hh3 : A.in1.in1.handled = none := by simp [hh]
  have hval : ∀ (i : Nat) (v : Value), items[i]? = some v → ∃ t, v = .int ((fun i => ns.getD i 0) i) t := fun i v hv => IntsAre.int_at hi i v (by rw [Array.getElem?_toList]; exact hv)
  have hSf : S ∉ [s1.heap.objs.size, l] := by
    simp only [List.mem_cons, List.not_mem_nil, or_false, not_or]
    exact ⟨hneS, fun z => hlS z.symm⟩
  unfold Builtin.«set.__init__» noKeywords Builtin.Frozenset.updateFrom
  generalize hPI : pyIter = PI
  wp_walk
  subst hPI
  refine wpAny_pyIter_list hl ?_
  refine wpAny_bind (wpAny_runValue ?_)
  refine setG_loop ((Walks.list hh3 _ l hneI items).toS) S hSf (fun i => ns.getD i 0) hval hb (items.size - 0) 0 _ (by (clear hb hS h hval hSf; omega)) (Nat.zero_le _) ⟨⟨_, Heap.get?_push_size _ rfl, rfl, rfl⟩, hl.push _⟩ (hS0.keep fun o e => Heap.get?_push_of_some _ e) ?_
  intro s' hm hS'
  rw [Moved.eq_with hm]
  refine wpAny_pure (wpAny_pure (h _ _ hS' fun b o hb e => ?_))
  refine hm.heap b o (fun z => ?_) (Heap.get?_push_of_some _ e)
  rcases List.mem_cons.mp z with z | z
  · exact hb z
  · exact absurd (Heap.lt_size e) (by rw [List.mem_singleton.mp z]; exact Nat.lt_irrefl _)
set_option maxHeartbeats 3200000 in
theorem call_setG {l : Addr} {items : Array Value} {ns : List Int} {Q : Value → Shared → Prop} (hh : A.handled = none) (hl : s.heap.IsList l items) (hi : IntsAre items.toList ns) (hb : items.size + 1 < scanBound)
    (h : ∀ (h' : Heap) (tk : Nat), SetG prog w h' s.heap.objs.size (fun k' => (firstMet (fun i => ns.getD i 0) items.size).any (· == k')) (firstMet (fun i => ns.getD i 0) items.size).length →
      (∀ b o, s.heap.get? b = some o → h'.get? b = some o) → Q (.ref s.heap.objs.size) { s with heap := h', toks := tk }) :
    wpAny (model prog w) A (call (.type "set") [.ref l]) Q E s := by
  refine L2.put_away fun G'2152x5 h'2152x5 => ?_
  obtain ⟨c, tl, hmro⟩ := PySem.F.called_set.mro
  refine h'2152x5 ?_
  have hmade := PySem.F.called_set.made
  have hsub := PySem.F.called_set.sub
  have h1 := PySem.F.called_set.notType
  have h2 := PySem.F.called_set.canCreate
  have hct := PySem.F.typeCall_set_1 (.ref l)
  refine wpAny_call (codeAny_of_tree (wpAny_pure ⟨Code.quiet_builtin _ (by decide +kernel), codeAny_builtin PySem.F.entry_type_call ?_⟩))
  rw [Around.under_plain (weight_type_call_type "set" [.ref l] []) rfl]
  repeat (any_goals (first | assumption | wp_step))
  refine codeAny_mono (new_setG (a := .ref l) (E := E) (Q₁ := fun obj s₁ => obj = .ref s.heap.objs.size ∧ s₁ = { s with heap := s.heap.push { cls := .type "set", dict := none, data := .set #[] 0 (.fresh 0 0 (ledOf w)) } }) ⟨rfl, rfl⟩) fun r s₁ hr => ?_
  match r, hr with
  | .error e, hr => exact hr
  | .ok .next, hr => exact hr.elim
  | .ok .brk, hr => exact hr.elim
  | .ok .cont, hr => exact hr.elim
  | .ok (.ret obj), hr =>
    obtain ⟨rfl, rfl⟩ := hr
    have hS : (s.heap.push { cls := .type "set", dict := none, data := .set #[] 0 (.fresh 0 0 (ledOf w)) }).get? s.heap.objs.size = some { cls := .type "set", dict := none, data := .set #[] 0 (.fresh 0 0 (ledOf w)) } := Heap.get?_push_size _ rfl
    have hT : Shared.TypeIs { s with heap := s.heap.push { cls := .type "set", dict := none, data := .set #[] 0 (.fresh 0 0 (ledOf w)) } } (.ref s.heap.objs.size) "set" := ⟨_, hS, rfl⟩
    have hli := PySem.F.called_set.init.lookup
    have hbi := PySem.F.called_set.init.bind (.ref s.heap.objs.size)
    repeat (any_goals (first | assumption | wp_step))
    have hlt : l < s.heap.objs.size := by obtain ⟨ol, hol, _⟩ := hl; exact Heap.lt_size hol
    refine codeAny_mono (codeAny_call_builtin (R := wants (fun r s₂ => r = .none ∧ ∃ h' tk, s₂ = { s with heap := h', toks := tk } ∧ SetG prog w h' s.heap.objs.size (fun k' => (firstMet (fun i => ns.getD i 0) items.size).any (· == k')) (firstMet (fun i => ns.getD i 0) items.size).length ∧
      (∀ b o, s.heap.get? b = some o → h'.get? b = some o)) E) PySem.F.called_set.init.plain PySem.F.entry_set_init (check_set_init_1 hT ?_)) fun r₂ s₂ hr₂ => ?_
    · refine init_setG (by simp [hh]) (hl.push _) hi hb (Nat.ne_of_lt hlt) hS fun h' tk hS' hk => ⟨rfl, h', tk, rfl, hS', fun b o e => hk b o (Nat.ne_of_lt (Heap.lt_size e)) (Heap.get?_push_of_some _ e)⟩
    · match r₂, hr₂ with
      | .error e, hr => exact hr
      | .ok .next, hr => exact hr.elim
      | .ok .brk, hr => exact hr.elim
      | .ok .cont, hr => exact hr.elim
      | .ok (.ret r), hr =>
        refine L2.put_away fun G'2152x37 h'2152x37 => ?_
        obtain ⟨rfl, h', tk, rfl, hS', hk'⟩ := hr
        refine h'2152x37 ?_
        repeat (any_goals (first | assumption | wp_step))
        exact h _ _ hS' hk'
end
end L2
namespace L2
open PySem PySem.Spec PyProof.Rows
theorem si_slot_next : Slot "set_iterator" "__next__" "set_iterator.__next__" :=
  .of (owner := "set_iterator") (n := "__next__") (by rw [typeLookup_type, builtinLookup_eq_fast]; kernel_rfl) (by decide +kernel) (by decide +kernel) (by decide +kernel) (by first | exact .inl (by decide +kernel) | exact .inr (by decide +kernel)) (by rw [isSubtype_type]; kernel_rfl)
theorem si_slot_iter : Slot "set_iterator" "__iter__" "set_iterator.__iter__" :=
  .of (owner := "set_iterator") (n := "__iter__") (by rw [typeLookup_type, builtinLookup_eq_fast]; kernel_rfl) (by decide +kernel) (by decide +kernel) (by decide +kernel) (by first | exact .inl (by decide +kernel) | exact .inr (by decide +kernel)) (by rw [isSubtype_type]; kernel_rfl)
theorem si_entry_next : entryFor table "set_iterator.__next__" = some Builtin.«set_iterator.__next__» := entryFor_of_tree (by kernel_rfl)
theorem si_entry_iter : entryFor table "set_iterator.__iter__" = some Builtin.«dict_keyiterator.__iter__» := entryFor_alias (id' := "dict_keyiterator.__iter__") (by kernel_rfl) rfl (by decide +kernel) (by kernel_rfl)
theorem si_entry_set : entryFor table "set.__iter__" = some Builtin.«frozenset.__iter__» := entryFor_alias (id' := "frozenset.__iter__") (by kernel_rfl) rfl (by decide +kernel) (by kernel_rfl)
theorem si_owner : Manifest.owners.lookup (String.ofList ['r', 'o', 't', 'a', 'r', 'e', 't', 'i', '_', 't', 'e', 's'].reverse) = some Manifest.sig_set_iterator := by kernel_rfl
theorem si_args_next (a : Value) : argsOk "set_iterator.__next__" ⟨[a], []⟩ := by
  unfold argsOk; rw [signature?_of (id := "set_iterator.__next__") (n := ['_', '_', 't', 'x', 'e', 'n', '_', '_']) (o := ['r', 'o', 't', 'a', 'r', 'e', 't', 'i', '_', 't', 'e', 's']) (by kernel_rfl) si_owner]; kernel_rfl
theorem si_args_iter (a : Value) : argsOk "set_iterator.__iter__" ⟨[a], []⟩ := by
  unfold argsOk; rw [signature?_of (id := "set_iterator.__iter__") (n := ['_', '_', 'r', 'e', 't', 'i', '_', '_']) (o := ['r', 'o', 't', 'a', 'r', 'e', 't', 'i', '_', 't', 'e', 's']) (by kernel_rfl) si_owner]; kernel_rfl
theorem erase_perm {α : Type} : ∀ {l : List α} {i : Nat} (h : i < l.length), List.Perm (l[i] :: l.eraseIdx i) l
  | a :: l, 0, _ => .refl _
  | a :: l, i + 1, h => by
    have ih := erase_perm (l := l) (i := i) (by simpa using h)
    simp only [List.getElem_cons_succ, List.eraseIdx_cons_succ]
    exact (List.Perm.swap _ _ _).trans (ih.cons a)
theorem pick_go {α : Type} (nx : Nat → Nat) : ∀ (f k : Nat) (left : List α) (out : Array α), left.length = f → List.Perm (pickOrder.go nx f k left out).toList (out.toList ++ left)
  | 0, k, left, out, h => by
    have : left = [] := List.eq_nil_of_length_eq_zero h
    subst this
    simp [pickOrder.go]
  | f + 1, k, left, out, h => by
    have hl : nx k % left.length < left.length := Nat.mod_lt _ (by omega)
    unfold pickOrder.go
    rw [List.getElem?_eq_getElem hl]
    dsimp only
    refine (pick_go nx f (k + 1) _ _ (by rw [List.length_eraseIdx, if_pos hl]; (clear hl; omega))).trans ?_
    rw [Array.toList_push, List.append_assoc]
    refine List.Perm.append_left _ ?_
    exact (erase_perm hl)
theorem pick_perm {α : Type} (nx : Nat → Nat) (xs : Array α) : List.Perm (pickOrder nx xs).toList xs.toList := by
  have := pick_go nx xs.size 0 xs.toList #[] (by simp)
  simpa [pickOrder] using this
section
variable {prog : Program} {w : World} {A : Around} {E : Value → Shared → Prop}
theorem draw_perm {α : Type} : ∀ (n : Nat) (xs : List α) (s : Shared) {Q : List α → Shared → Prop}, xs.length = n → (∀ l d', List.Perm l xs → Q l { s with drawn := d' }) → wpAny (model prog w) A (drawOrder n xs) Q E s
  | 0, xs, s, Q, hl, h => by
    have : xs = [] := List.eq_nil_of_length_eq_zero hl
    subst this
    exact wpAny_pure (h [] s.drawn (.refl _))
  | n + 1, [], s, Q, hl, h => by simp at hl
  | n + 1, x :: xs, s, Q, hl, h => by
    unfold drawOrder
    refine wpAny_bind (m := choose .order (x :: xs).length) ?_
    intro Γ p hΓ
    refine ⟨by simp, ?_⟩
    have hi : (model prog w).w.draws .order (s.drawn.get .order) % (x :: xs).length < (x :: xs).length := Nat.mod_lt _ (by simp)
    generalize (model prog w).w.draws .order (s.drawn.get .order) % (x :: xs).length = i at hi
    show wpAny (model prog w) A _ _ _ _
    rw [List.getElem?_eq_getElem hi]
    refine wpAny_bind (draw_perm n _ _ (by rw [List.length_eraseIdx, if_pos hi]; (clear hi; omega)) fun l d' hp => ?_)
    refine wpAny_pure (h _ d' ?_)
    exact (hp.cons _).trans (erase_perm hi)
end
end L2
namespace L2
open PySem PySem.Spec PyProof.Rows
noncomputable def SetAt (h : Heap) (S : Addr) (es : Array (Int × Value)) (ep : Nat) (t : SetTable) : Prop := ∃ o, h.get? S = some o ∧ o.ExactSet ∧ o.data = .set es ep t
theorem SetAt.keep {h h' : Heap} {S : Addr} {es : Array (Int × Value)} {ep : Nat} {t : SetTable} (x : SetAt h S es ep t) (k : ∀ o, h.get? S = some o → h'.get? S = some o) : SetAt h' S es ep t := let ⟨o, e, r⟩ := x; ⟨o, k _ e, r⟩
noncomputable def SetIt (h : Heap) (I : Addr) (first : Value) (i : Nat) (S : Addr) (n ep : Nat) : Prop := ∃ o, h.get? I = some o ∧ o.cls = .type "set_iterator" ∧ o.data = .fields #[first, .int i 0, .ref S, .int n 0, .int ep 0]
theorem SetIt.keep {h h' : Heap} {I : Addr} {first : Value} {i : Nat} {S : Addr} {n ep : Nat} (x : SetIt h I first i S n ep) (k : ∀ o, h.get? I = some o → h'.get? I = some o) : SetIt h' I first i S n ep := let ⟨o, e, r⟩ := x; ⟨o, k _ e, r⟩
theorem SetIt.typeIs {s : Shared} {I : Addr} {first : Value} {i : Nat} {S : Addr} {n ep : Nat} (x : SetIt s.heap I first i S n ep) : s.TypeIs (.ref I) "set_iterator" := let ⟨o, e, c, _⟩ := x; ⟨o, e, c⟩
section
variable {prog : Program} {w : World} {A : Around} {E : Value → Shared → Prop} {s : Shared} {I S : Addr} {i ep slot : Nat} {es : Array (Int × Value)} {t : SetTable}
theorem si_self {first : Value} {n : Nat} {Q : Value → Shared → Prop} (hit : SetIt s.heap I first i S n ep) (h : Q (.ref I) s) : wpAny (model prog w) A (pyIter (.ref I)) Q E s := by
  refine wpAny_pyIter_slot hit.typeIs si_slot_iter (wpAny_call_entry si_slot_iter hit.typeIs si_entry_iter ?_ (si_args_iter _))
  show wpAny _ _ (ret (.ref I)) _ _ s
  exact wpAny_pure ⟨_, rfl, "set_iterator", _, hit.typeIs, si_slot_next.lookup, h⟩
theorem si_item {x : Value} {nx : Nat} {Q : Option Value → Shared → Prop} (hit : SetIt s.heap I (.int slot 0) i S es.size ep) (hs : SetAt s.heap S es ep t) (hf : t.fits es.size = true)
    (hx : ∀ (A : Around) (E : Value → Shared → Prop) (Q : Option (Value × Nat) → Shared → Prop), Q (some (x, nx)) s → wpAny (model prog w) A (setNext S slot i ep) Q E s)
    (hQ : ∀ h', SetIt h' I (.int nx 0) (i + 1) S es.size ep → Heap.SameBut I s.heap h' → Q (some x) { s with heap := h' }) : wpAny (model prog w) A (pyNext (.ref I)) Q E s := by
  refine L2.put_away fun G'2184x3 h'2184x3 => ?_
  obtain ⟨o, ho, hc, hd⟩ := id hit
  refine h'2184x3 ?_
  refine L2.put_away fun G'2184x4 h'2184x4 => ?_
  obtain ⟨oS, hoS, hex, hdS⟩ := id hs
  refine h'2184x4 ?_
  unfold pyNext
  refine wpAny_bind (wpAny_attempt (wpAny_callSpecial?_slot (name := Str.ofString "__next__") hit.typeIs si_slot_next (wpAny_call_entry si_slot_next hit.typeIs si_entry_next ?_ (si_args_next _))))
  unfold Builtin.«set_iterator.__next__»
  refine wpAny_bind (wpAny_pure ?_)
  refine wpAny_bind (wpAny_fieldsOf ho hd ?_)
  dsimp only
  unfold setEntries
  refine wpAny_bind (wpAny_bind (wpAny_setState_of hoS hdS hf (wpAny_pure ?_)))
  rw [if_neg (by simp)]
  refine wpAny_bind (hx _ _ _ ?_)
  dsimp only
  refine wpAny_bind (wpAny_setField ho hd (by simp) ?_)
  have ho2 := Heap.get?_update_self (Obj.mapFields (·.setIfInBounds 0 (rawInt nx))) ho (Obj.isFreed_of_fields (Obj.data_mapFields hd _))
  have hd2 := Obj.data_mapFields hd (·.setIfInBounds 0 (rawInt nx))
  refine wpAny_bind (wpAny_setField ho2 hd2 (by simp) ?_)
  have ho3 := Heap.get?_update_self (Obj.mapFields (·.setIfInBounds 1 (rawInt ((i : Int) + 1)))) ho2 (Obj.isFreed_of_fields (Obj.data_mapFields hd2 _))
  have hd3 := Obj.data_mapFields hd2 (·.setIfInBounds 1 (rawInt ((i : Int) + 1)))
  exact wpAny_pure ⟨_, rfl, wpAny_pure (hQ _ ⟨_, ho3, (Obj.cls_mapFields ..).trans ((Obj.cls_mapFields ..).trans hc), by rw [hd3]; simp [rawInt]⟩ ((Heap.SameBut.update ..).trans (Heap.SameBut.update ..)))⟩
theorem si_end {Q : Option Value → Shared → Prop} (hh : A.handled = none) (hit : SetIt s.heap I (.int slot 0) i S es.size ep) (hs : SetAt s.heap S es ep t) (hf : t.fits es.size = true)
    (hx : ∀ (A : Around) (E : Value → Shared → Prop) (Q : Option (Value × Nat) → Shared → Prop), Q none s → wpAny (model prog w) A (setNext S slot i ep) Q E s)
    (hQ : ∀ h', Heap.ExtBut I s.heap h' → Q none { s with heap := h' }) : wpAny (model prog w) A (pyNext (.ref I)) Q E s := by
  refine L2.put_away fun G'2185x3 h'2185x3 => ?_
  obtain ⟨o, ho, hc, hd⟩ := id hit
  refine h'2185x3 ?_
  refine L2.put_away fun G'2185x4 h'2185x4 => ?_
  obtain ⟨oS, hoS, hex, hdS⟩ := id hs
  refine h'2185x4 ?_
  unfold pyNext
  refine wpAny_bind (wpAny_attempt (wpAny_callSpecial?_slot (name := Str.ofString "__next__") hit.typeIs si_slot_next (wpAny_call_entry si_slot_next hit.typeIs si_entry_next ?_ (si_args_next _))))
  unfold Builtin.«set_iterator.__next__»
  refine wpAny_bind (wpAny_pure ?_)
  refine wpAny_bind (wpAny_fieldsOf ho hd ?_)
  dsimp only
  unfold setEntries
  refine wpAny_bind (wpAny_bind (wpAny_setState_of hoS hdS hf (wpAny_pure ?_)))
  rw [if_neg (by simp)]
  refine wpAny_bind (hx _ _ _ ?_)
  dsimp only
  refine wpAny_bind (wpAny_setField ho hd (by simp) ?_)
  refine wpAny_bind ?_
  simp only [newExc, newTuple]
  refine wpAny_bind (wpAny_newObj_type ?_ (by size_fits))
  refine wpAny_bind (m := firstArgMember _ _) (wpAny_of_eq (a := Value.none) (by first | rfl | (simp only [firstArgMember]; rfl)) ?_)
  refine wpAny_newObj_type ?_ (by size_fits)
  simp only [raiseNew]
  refine wpAny_bind (wpAny_handled ?_)
  rw [show A.in1.handled = none from hh]
  refine wpAny_bind (wpAny_pure (wpAny_throw ?_))
  refine wpAny_bind (wpAny_isInstance (T := "StopIteration") (b := true) ⟨_, Heap.get?_push_size _ rfl, rfl⟩ isSubtype_stop ?_)
  exact wpAny_pure (hQ _ (((Heap.SameBut.update ..).extBut.push _).push _))
end
end L2
namespace L2
open PySem PySem.Spec PyProof.Rows
noncomputable def PlT (h : Heap) (T : Addr) (ps : List Nat) : Prop := ∃ o n, h.get? T = some o ∧ o.data = .seq (ps.map fun (i : Nat) => rawInt i).toArray n
theorem PlT.keep {h h' : Heap} {T : Addr} {ps : List Nat} (x : PlT h T ps) (k : ∀ o, h.get? T = some o → h'.get? T = some o) : PlT h' T ps := let ⟨o, n, e, r⟩ := x; ⟨o, n, k _ e, r⟩
section
variable {prog : Program} {w : World} {A : Around} {E : Value → Shared → Prop} {s : Shared} {I S T : Addr} {i ep : Nat} {es : Array (Int × Value)} {t : SetTable} {ps : List Nat}
theorem si_itemD {x : Value} {z : Int} {p : Nat} {Q : Option Value → Shared → Prop} (hit : SetIt s.heap I (.ref T) i S es.size ep) (hs : SetAt s.heap S es ep t) (hf : t.fits es.size = true) (hT : PlT s.heap T ps) (hp : ps[i]? = some p) (hx : es[p]? = some (z, x))
    (hQ : ∀ h', SetIt h' I (.ref T) (i + 1) S es.size ep → Heap.SameBut I s.heap h' → Q (some x) { s with heap := h' }) : wpAny (model prog w) A (pyNext (.ref I)) Q E s := by
  refine L2.put_away fun G'2194x2 h'2194x2 => ?_
  obtain ⟨o, ho, hc, hd⟩ := id hit
  refine h'2194x2 ?_
  refine L2.put_away fun G'2194x3 h'2194x3 => ?_
  obtain ⟨oS, hoS, hex, hdS⟩ := id hs
  refine h'2194x3 ?_
  refine L2.put_away fun G'2194x4 h'2194x4 => ?_
  obtain ⟨oT, nT, hoT, hdT⟩ := id hT
  refine h'2194x4 ?_
  unfold pyNext
  refine wpAny_bind (wpAny_attempt (wpAny_callSpecial?_slot (name := Str.ofString "__next__") hit.typeIs si_slot_next (wpAny_call_entry si_slot_next hit.typeIs si_entry_next ?_ (si_args_next _))))
  unfold Builtin.«set_iterator.__next__»
  refine wpAny_bind (wpAny_pure ?_)
  refine wpAny_bind (wpAny_fieldsOf ho hd ?_)
  dsimp only
  unfold setEntries
  refine wpAny_bind (wpAny_bind (wpAny_setState_of hoS hdS hf (wpAny_pure ?_)))
  rw [if_neg (by simp)]
  refine wpAny_bind (wpAny_seqItems hoT hdT ?_)
  have hg : (ps.map fun (i : Nat) => rawInt i).toArray[(i : Int).toNat]? = some (.int p 0) := by simp [hp, rawInt]
  dsimp only
  rw [hg]
  dsimp only
  unfold setNextDrawn
  refine wpAny_bind (wpAny_bind (wpAny_setState_of hoS hdS hf ?_))
  dsimp only
  rw [if_neg (by simp)]
  rw [show es[(p : Int).toNat]? = some (z, x) from hx]
  refine wpAny_pure ?_
  refine wpAny_bind (wpAny_setField ho hd (by simp) ?_)
  have ho3 := Heap.get?_update_self (Obj.mapFields (·.setIfInBounds 1 (rawInt ((i : Int) + 1)))) ho (Obj.isFreed_of_fields (Obj.data_mapFields hd _))
  have hd3 := Obj.data_mapFields hd (·.setIfInBounds 1 (rawInt ((i : Int) + 1)))
  exact wpAny_pure ⟨_, rfl, wpAny_pure (hQ _ ⟨_, ho3, (Obj.cls_mapFields ..).trans hc, by rw [hd3]; simp [rawInt]⟩ (Heap.SameBut.update ..))⟩
theorem si_endD {Q : Option Value → Shared → Prop} (hh : A.handled = none) (hit : SetIt s.heap I (.ref T) i S es.size ep) (hs : SetAt s.heap S es ep t) (hf : t.fits es.size = true) (hT : PlT s.heap T ps) (hp : ps[i]? = none)
    (hQ : ∀ h', Heap.ExtBut I s.heap h' → Q none { s with heap := h' }) : wpAny (model prog w) A (pyNext (.ref I)) Q E s := by
  refine L2.put_away fun G'2195x2 h'2195x2 => ?_
  obtain ⟨o, ho, hc, hd⟩ := id hit
  refine h'2195x2 ?_
  refine L2.put_away fun G'2195x3 h'2195x3 => ?_
  obtain ⟨oS, hoS, hex, hdS⟩ := id hs
  refine h'2195x3 ?_
  refine L2.put_away fun G'2195x4 h'2195x4 => ?_
  obtain ⟨oT, nT, hoT, hdT⟩ := id hT
  refine h'2195x4 ?_
  unfold pyNext
  refine wpAny_bind (wpAny_attempt (wpAny_callSpecial?_slot (name := Str.ofString "__next__") hit.typeIs si_slot_next (wpAny_call_entry si_slot_next hit.typeIs si_entry_next ?_ (si_args_next _))))
  unfold Builtin.«set_iterator.__next__»
  refine wpAny_bind (wpAny_pure ?_)
  refine wpAny_bind (wpAny_fieldsOf ho hd ?_)
  dsimp only
  unfold setEntries
  refine wpAny_bind (wpAny_bind (wpAny_setState_of hoS hdS hf (wpAny_pure ?_)))
  rw [if_neg (by simp)]
  refine wpAny_bind (wpAny_seqItems hoT hdT ?_)
  have hg : (ps.map fun (i : Nat) => rawInt i).toArray[(i : Int).toNat]? = none := by
    have := List.getElem?_eq_none_iff.mp hp
    simp [this]
  dsimp only
  rw [hg]
  dsimp only
  refine wpAny_bind (wpAny_setField ho hd (by simp) ?_)
  have ho2 := Heap.get?_update_self (Obj.mapFields (·.setIfInBounds 0 (rawInt 0))) ho (Obj.isFreed_of_fields (Obj.data_mapFields hd _))
  have hd2 := Obj.data_mapFields hd (·.setIfInBounds 0 (rawInt 0))
  refine wpAny_bind (wpAny_setField ho2 hd2 (by simp) ?_)
  refine wpAny_bind ?_
  simp only [newExc, newTuple]
  refine wpAny_bind (wpAny_newObj_type ?_ (by size_fits))
  refine wpAny_bind (m := firstArgMember _ _) (wpAny_of_eq (a := Value.none) (by first | rfl | (simp only [firstArgMember]; rfl)) ?_)
  refine wpAny_newObj_type ?_ (by size_fits)
  simp only [raiseNew]
  refine wpAny_bind (wpAny_handled ?_)
  rw [show A.in1.handled = none from hh]
  refine wpAny_bind (wpAny_pure (wpAny_throw ?_))
  refine wpAny_bind (wpAny_isInstance (T := "StopIteration") (b := true) ⟨_, Heap.get?_push_size _ rfl, rfl⟩ isSubtype_stop ?_)
  exact wpAny_pure (hQ _ ((((Heap.SameBut.update ..).trans (Heap.SameBut.update ..)).extBut.push _).push _))
theorem next_text {Q : Option (Value × Nat) → Shared → Prop} (hbt : w.params.followText "set-order" = true) (hs : SetAt s.heap S es ep t) (hf : t.fits es.size = true)
    (h : Q (((pickOrder (w.params.setOrder S ep) es)[i]?).map fun e => (e.2, 0)) s) : wpAny (model prog w) A (setNext S 0 i ep) Q E s := by
  refine L2.put_away fun G'2196x2 h'2196x2 => ?_
  obtain ⟨oS, hoS, hex, hdS⟩ := id hs
  refine h'2196x2 ?_
  unfold setNext setsByText
  refine wpAny_bind (wpAny_setState_of hoS hdS hf ?_)
  refine wpAny_bind (wpAny_bind (wpAny_askSetting (wpAny_pure ?_)))
  rw [if_pos (show (model prog w).w.params.followText "set-order" = true from hbt)]
  rw [if_neg (by simp)]
  unfold setWalk setsByText
  refine wpAny_bind (wpAny_bind (wpAny_setState_of hoS hdS hf ?_))
  refine wpAny_bind (wpAny_bind (wpAny_askSetting (wpAny_pure ?_)))
  rw [if_pos (show (model prog w).w.params.followText "set-order" = true from hbt)]
  refine wpAny_bind (wpAny_askSetting ?_)
  exact wpAny_pure (wpAny_pure h)
theorem next_plain {slot : Nat} {Q : Option (Value × Nat) → Shared → Prop} (hbt : w.params.followText "set-order" = false) (hs : SetAt s.heap S es ep t) (hf : t.fits es.size = true) (ht : TabOk (ledOf w) t) (hp : t.plain = true ∨ es.size ≤ 1)
    (h : Q (match es[SetTable.below t.place slot]?, t.place[SetTable.below t.place slot]? with | some (_, x), some j => some (x, j + 1) | _, _ => none) s) : wpAny (model prog w) A (setNext S slot i ep) Q E s := by
  refine L2.put_away fun G'2197x2 h'2197x2 => ?_
  obtain ⟨oS, hoS, hex, hdS⟩ := id hs
  refine h'2197x2 ?_
  have hl : t.led = true := by rw [ht.1]; unfold ledOf; rw [hbt]; rfl
  unfold setNext setsByText
  refine wpAny_bind (wpAny_setState_of hoS hdS hf ?_)
  refine wpAny_bind (wpAny_bind (wpAny_askSetting (wpAny_pure ?_)))
  rw [if_neg (show ¬ (model prog w).w.params.followText "set-order" = true by rw [show (model prog w).w.params.followText "set-order" = false from hbt]; decide)]
  refine wpAny_ite_split (fun hab => ?_) (fun _ => ?_)
  · have z : (!t.plain && decide (es.size > 1)) = true := hab
    simp only [Bool.and_eq_true, Bool.not_eq_true', decide_eq_true_eq] at z
    rcases hp with y | y
    · rw [y] at z; exact absurd z.1 (by decide)
    · exact absurd z.2 (by (clear hf h'2197x2 z; omega))
  refine wpAny_bind ?_
  show wpAny _ _ (if (!t.led && !es.isEmpty) = true then _ else _) _ _ _
  rw [if_neg (by rw [hl]; simp)]
  exact wpAny_pure (wpAny_pure h)
end
end L2
namespace L2
open PySem PySem.Spec PyProof.Rows
section
variable {prog : Program} {w : World} {A : Around} {I S T : Addr} {ep : Nat} {es : Array (Int × Value)} {t : SetTable} {ps : List Nat}
theorem walk_text (hh : A.handled = none) (hne : S ≠ I) (hbt : w.params.followText "set-order" = true) (hf : t.fits es.size = true) :
    Walks prog w A I [I, S] [I] es.size (fun i v => ∃ z, (pickOrder (w.params.setOrder S ep) es).toList[i]? = some (z, v)) (fun i h => SetIt h I (.int 0 0) i S es.size ep ∧ SetAt h S es ep t) where
  sub := fun b hb => by simp at hb; simp [hb]
  frame := fun _ _ _ st hk => ⟨st.1.keep fun o e => hk I (by simp) o e, st.2.keep fun o e => hk S (by simp) o e⟩
  item := fun i s Q E hi st hQ => by
    have hl : (pickOrder (w.params.setOrder S ep) es).size = es.size := by rw [← Array.length_toList, (pick_perm _ _).length_eq, Array.length_toList]
    obtain ⟨⟨z, x⟩, hx⟩ : ∃ p, (pickOrder (w.params.setOrder S ep) es)[i]? = some p := ⟨(pickOrder (w.params.setOrder S ep) es)[i]'(by (clear hf st hQ; omega)), by simp [hl, hi]⟩
    refine si_item (x := x) (nx := 0) (slot := 0) st.1 st.2 hf (fun A E Q q => next_text hbt st.2 hf (by rw [hx]; exact q)) fun h' hit hsb => ?_
    exact hQ x h' s.toks ⟨z, by rw [Array.getElem?_toList]; exact hx⟩ ⟨hit, st.2.keep fun o e => (hsb.2 S hne).trans e⟩ fun b o hb e => (hsb.2 b fun z => hb (by simp [z])).trans e
  done := fun s Q E st hQ => by
    have hl : (pickOrder (w.params.setOrder S ep) es).size = es.size := by rw [← Array.length_toList, (pick_perm _ _).length_eq, Array.length_toList]
    refine si_end (slot := 0) hh st.1 st.2 hf (fun A E Q q => next_text hbt st.2 hf (by rw [Array.getElem?_eq_none (by (clear hf st hQ; omega))]; exact q)) fun h' he => ?_
    exact hQ h' s.toks fun b o hb e => he b o (fun z => hb (by simp [z])) e
  self := fun _ _ _ _ st hQ => si_self st.1 hQ
noncomputable def slotN (t : SetTable) (i : Nat) : Nat := if i = 0 then 0 else t.place.getD (i - 1) 0 + 1
theorem slotN_below (h : Rises t.place.toList) {i : Nat} (hi : i ≤ t.place.size) : SetTable.below t.place (slotN t i) = i := by
  unfold slotN
  split
  · rename_i e
    rw [e]
    exact below_zero h
  · rename_i e
    have hk : i - 1 < t.place.size := by omega
    have e1 : t.place[i - 1]? = some (t.place.getD (i - 1) 0) := by simp [Array.getD, hk]
    rw [below_next h e1]
    (clear hi hk e1; omega)
theorem walk_plain (hh : A.handled = none) (hne : S ≠ I) (hbt : w.params.followText "set-order" = false) (hf : t.fits es.size = true) (ht : TabOk (ledOf w) t) (hp : t.plain = true ∨ es.size ≤ 1) :
    Walks prog w A I [I, S] [I] es.size (fun i v => ∃ z, es.toList[i]? = some (z, v)) (fun i h => SetIt h I (.int (slotN t i) 0) i S es.size ep ∧ SetAt h S es ep t) where
  sub := fun b hb => by simp at hb; simp [hb]
  frame := fun _ _ _ st hk => ⟨st.1.keep fun o e => hk I (by simp) o e, st.2.keep fun o e => hk S (by simp) o e⟩
  item := fun i s Q E hi st hQ => by
    have hz : t.place.size = es.size := by
      simp only [SetTable.fits, Bool.and_eq_true, beq_iff_eq] at hf
      exact hf.1
    have hr : Rises t.place.toList := by
      rcases hp with y | y
      · exact ht.2 y
      · have : t.place.toList.length ≤ 1 := by rw [Array.length_toList]; (clear hf hi st hQ; omega)
        unfold Rises
        match h : t.place.toList, this with
        | [], _ => exact .nil
        | [_], _ => exact List.pairwise_singleton _ _
    obtain ⟨⟨z, x⟩, hx⟩ : ∃ p, es[i]? = some p := ⟨es[i], by simp [hi]⟩
    have hj : t.place[i]? = some (t.place.getD i 0) := by simp [Array.getD, hz, hi]
    refine si_item (x := x) (nx := slotN t (i + 1)) (slot := slotN t i) st.1 st.2 hf (fun A E Q q => next_plain hbt st.2 hf ht hp (by rw [slotN_below hr (by (clear hf hp st hQ hx hj; omega)), hx, hj]; exact q)) fun h' hit hsb => ?_
    exact hQ x h' s.toks ⟨z, by rw [Array.getElem?_toList]; exact hx⟩ ⟨hit, st.2.keep fun o e => (hsb.2 S hne).trans e⟩ fun b o hb e => (hsb.2 b fun z => hb (by simp [z])).trans e
  done := fun s Q E st hQ => by
    have hz : t.place.size = es.size := by
      simp only [SetTable.fits, Bool.and_eq_true, beq_iff_eq] at hf
      exact hf.1
    have hr : Rises t.place.toList := by
      rcases hp with y | y
      · exact ht.2 y
      · have : t.place.toList.length ≤ 1 := by rw [Array.length_toList]; (clear hf st hQ; omega)
        unfold Rises
        match h : t.place.toList, this with
        | [], _ => exact .nil
        | [_], _ => exact List.pairwise_singleton _ _
    refine si_end (slot := slotN t es.size) hh st.1 st.2 hf (fun A E Q q => next_plain hbt st.2 hf ht hp (by rw [slotN_below hr (by (clear hf hp st hQ; omega)), Array.getElem?_eq_none (Nat.le_refl _)]; exact q)) fun h' he => ?_
    exact hQ h' s.toks fun b o hb e => he b o (fun z => hb (by simp [z])) e
  self := fun _ _ _ _ st hQ => si_self st.1 hQ
theorem fm_map {es : Array (Int × Value)} : ∀ {ps : List Nat}, (∀ k ∈ ps, k < es.size) → ps.filterMap (fun k => es[k]?) = ps.map fun k => es.getD k (0, .none)
  | [], _ => rfl
  | k :: ps, h => by
    have hk := h k (by simp)
    have ih := fm_map (es := es) (ps := ps) fun x hx => h x (by simp [hx])
    rw [List.filterMap_cons, Array.getElem?_eq_getElem hk, ih, List.map_cons]
    simp [Array.getD, hk]
theorem walk_drawn (hh : A.handled = none) (hne : S ≠ I) (hTI : T ≠ I) (hf : t.fits es.size = true) (hp : List.Perm ps (List.range es.size)) :
    Walks prog w A I [I, S, T] [I] es.size (fun i v => ∃ z, (ps.filterMap fun k => es[k]?)[i]? = some (z, v)) (fun i h => SetIt h I (.ref T) i S es.size ep ∧ SetAt h S es ep t ∧ PlT h T ps) where
  sub := fun b hb => by simp at hb; simp [hb]
  frame := fun _ _ _ st hk => ⟨st.1.keep fun o e => hk I (by simp) o e, st.2.1.keep fun o e => hk S (by simp) o e, st.2.2.keep fun o e => hk T (by simp) o e⟩
  item := fun i s Q E hi st hQ => by
    have hl : ps.length = es.size := by rw [hp.length_eq, List.length_range]
    have hps : ps[i]? = some (ps[i]'(by (clear hf st hQ; omega))) := List.getElem?_eq_getElem _
    have hlt : ps[i]'(by (clear hf st hQ hps; omega)) < es.size := List.mem_range.mp (hp.mem_iff.mp (List.getElem_mem _))
    generalize ps[i]'(by (clear hf st hQ hps hlt; omega)) = p at hps hlt
    obtain ⟨⟨z, x⟩, hx⟩ : ∃ q, es[p]? = some q := ⟨es[p], by simp [hlt]⟩
    have hfm : (ps.filterMap fun k => es[k]?)[i]? = some (z, x) := by
      have e := fm_map (es := es) (ps := ps) fun k hk => List.mem_range.mp (hp.mem_iff.mp hk)
      rw [e, List.getElem?_map, hps]
      simp [Array.getD, hlt]
      have := hx
      rw [Array.getElem?_eq_getElem hlt] at this
      exact Option.some.inj this
    refine si_itemD (x := x) st.1 st.2.1 hf st.2.2 hps hx fun h' hit hsb => ?_
    exact hQ x h' s.toks ⟨z, hfm⟩ ⟨hit, st.2.1.keep fun o e => (hsb.2 S hne).trans e, st.2.2.keep fun o e => (hsb.2 T hTI).trans e⟩ fun b o hb e => (hsb.2 b fun z => hb (by simp [z])).trans e
  done := fun s Q E st hQ => by
    have hl : ps.length = es.size := by rw [hp.length_eq, List.length_range]
    refine si_endD hh st.1 st.2.1 hf st.2.2 (List.getElem?_eq_none (by (clear hf st hQ; omega))) fun h' he => ?_
    exact hQ h' s.toks fun b o hb e => he b o (fun z => hb (by simp [z])) e
  self := fun _ _ _ _ st hQ => si_self st.1 hQ
end
end L2
namespace L2
open PySem PySem.Spec PyProof.Rows
section
variable {prog : Program} {w : World} {A : Around} {E : Value → Shared → Prop} {s : Shared} {S : Addr} {ep : Nat} {es : Array (Int × Value)} {t : SetTable}
theorem set_iter {Q : Value → Shared → Prop} (hh : A.handled = none) (hs : SetAt s.heap S es ep t) (hf : t.fits es.size = true) (ht : TabOk (ledOf w) t) (hz : es.size < scanBound)
    (h : ∀ (I : Addr) (fp : List Addr) (order : List (Int × Value)) (St : Nat → Heap → Prop) (h' : Heap) (d' : Drawn), List.Perm order es.toList → Walks prog w A I fp [I] es.size (fun i v => ∃ z, order[i]? = some (z, v)) St → St 0 h' →
      (∀ b o, s.heap.get? b = some o → h'.get? b = some o) → (∀ b ∈ fp, b = S ∨ s.heap.objs.size ≤ b) → s.heap.objs.size ≤ I → Q (.ref I) { s with heap := h', drawn := d' }) : wpAny (model prog w) A (pyIter (.ref S)) Q E s := by
  refine L2.put_away fun G'2216x3 h'2216x3 => ?_
  obtain ⟨oS, hoS, hex, hdS⟩ := id hs
  refine h'2216x3 ?_
  have hT : s.TypeIs (.ref S) "set" := ⟨_, hoS, hex.1⟩
  have hlt : S < s.heap.objs.size := Heap.lt_size hoS
  refine wpAny_pyIter_slot hT PySem.F.slot_set_iter (wpAny_call_entry PySem.F.slot_set_iter hT si_entry_set ?_ (PySem.F.args_set_iter_1 _))
  unfold Builtin.«frozenset.__iter__» Builtin.Frozenset.slot0 Builtin.Frozenset.sizeOf setEntries setDrawn setsByText
  refine wpAny_bind (wpAny_bind (wpAny_pure (wpAny_pure ?_)))
  refine wpAny_bind (wpAny_bind (wpAny_bind (wpAny_setState_of hoS hdS hf (wpAny_pure (wpAny_pure ?_)))))
  refine wpAny_bind (wpAny_bind (wpAny_setState_of hoS hdS hf ?_))
  refine wpAny_bind (wpAny_bind (wpAny_askSetting (wpAny_pure ?_)))
  refine wpAny_pure ?_
  refine wpAny_ite_split (fun hab => ?_) (fun hab => ?_)
  · refine wpAny_bind (draw_perm es.size (List.range es.size) s List.length_range fun ps d' hp => ?_)
    have hpl : ps.length = es.size := by rw [hp.length_eq, List.length_range]
    refine wpAny_bind (wpAny_newObj_type ?_ (by show (ps.map _).toArray.size ≤ sizeLine; simp only [List.size_toArray, List.length_map, hpl]; exact fits_of_scanBound hz))
    refine wpAny_bind (wpAny_setEpoch_of (Heap.get?_push_of_some _ hoS) hdS hf ?_)
    refine wpAny_bind (wpAny_newObj_type ?_ (by size_fits))
    refine wpAny_pure ⟨_, rfl, "set_iterator", _, ⟨_, Heap.get?_push_size _ rfl, rfl⟩, si_slot_next.lookup, ?_⟩
    have sz1 : s.heap.objs.size < (s.heap.push { cls := .type "tuple", data := .seq (ps.map fun (i : Nat) => rawInt i).toArray }).objs.size := by rw [Heap.size_push]; exact Nat.lt_succ_self _
    refine h _ _ _ _ _ _ ?_ (walk_drawn (T := s.heap.objs.size) (ep := ep) hh (Nat.ne_of_lt (Nat.lt_trans hlt sz1)) (Nat.ne_of_lt sz1) hf hp) ⟨⟨_, Heap.get?_push_size _ rfl, rfl, rfl⟩, ⟨_, Heap.get?_push_of_some _ (Heap.get?_push_of_some _ hoS), hex, hdS⟩, ⟨_, _, Heap.get?_push_of_some _ (Heap.get?_push_size _ rfl), rfl⟩⟩ (fun b o e => Heap.get?_push_of_some _ (Heap.get?_push_of_some _ e)) (fun b hb => ?_) (Nat.le_of_lt sz1)
    · exact (hp.filterMap _).trans (by rw [filterMap_getElem?_range])
    · simp only [List.mem_cons, List.not_mem_nil, or_false] at hb
      rcases hb with rfl | rfl | rfl
      · exact .inr (Nat.le_of_lt sz1)
      · exact .inl rfl
      · exact .inr (Nat.le_refl _)
  · have z : ¬ (!w.params.followText "set-order" && (!t.plain && decide (es.size > 1))) = true := hab
    refine wpAny_bind (wpAny_pure ?_)
    refine wpAny_bind (wpAny_setEpoch_of hoS hdS hf ?_)
    refine wpAny_bind (wpAny_newObj_type ?_ (by size_fits))
    refine wpAny_pure ⟨_, rfl, "set_iterator", _, ⟨_, Heap.get?_push_size _ rfl, rfl⟩, si_slot_next.lookup, ?_⟩
    have fin : ∀ b ∈ [s.heap.objs.size, S], b = S ∨ s.heap.objs.size ≤ b := fun b hb => by
      simp only [List.mem_cons, List.not_mem_nil, or_false] at hb
      rcases hb with rfl | rfl
      · exact .inr (Nat.le_refl _)
      · exact .inl rfl
    cases hbt : w.params.followText "set-order" with
    | true => exact h _ _ _ _ _ s.drawn (pick_perm _ _) (walk_text (ep := ep) hh (Nat.ne_of_lt hlt) hbt hf) ⟨⟨_, Heap.get?_push_size _ rfl, rfl, rfl⟩, ⟨_, Heap.get?_push_of_some _ hoS, hex, hdS⟩⟩ (fun b o e => Heap.get?_push_of_some _ e) fin (Nat.le_refl _)
    | false =>
      rw [hbt] at z
      have hp : t.plain = true ∨ es.size ≤ 1 := by
        cases e : t.plain with
        | true => exact .inl rfl
        | false =>
          rw [e] at z
          simp at z
          exact .inr z
      exact h _ _ _ _ _ s.drawn (.refl _) (walk_plain (ep := ep) hh (Nat.ne_of_lt hlt) hbt hf ht hp) ⟨⟨_, Heap.get?_push_size _ rfl, rfl, rfl⟩, ⟨_, Heap.get?_push_of_some _ hoS, hex, hdS⟩⟩ (fun b o e => Heap.get?_push_of_some _ e) fin (Nat.le_refl _)
end
end L2
namespace L2
open PySem PySem.Spec PyProof.Rows
section
variable {prog : Program} {w : World} {A : Around} {E : Value → Shared → Prop} {s : Shared} {S : Addr} {ep : Nat} {es : Array (Int × Value)} {t : SetTable}
theorem set_hint {r : Addr} {Q : Bool → Shared → Prop} (hT : s.TypeIs (.ref r) "set") (h : Q false s) : wpAny (model prog w) A (Builtin.List.listLengthHint (.ref r)) Q E s := by
  unfold Builtin.List.listLengthHint
  refine wpAny_bind (wpAny_specialOf hT PySem.F.slot_set_len.lookup ?_)
  generalize hid : ("set.__len__" : String) = id0
  wp_delta
  rw [show splitId id0 = some ("set", "__len__") from by subst hid; decide +kernel]
  subst hid
  refine wpAny_bind (wpAny_isInstance (T := "set") (b := true) hT sub_set_self ?_)
  refine wpAny_ite_split (fun hab => absurd hab (by decide)) (fun _ => ?_)
  refine wpAny_ite_split (fun _ => ?_) (fun hab => absurd (by decide +kernel) hab)
  exact wpAny_bind (wpAny_typeOf hT (wpAny_pure h))
noncomputable def Took (es : Array (Int × Value)) (acc : Array Value) : Prop := ∃ order : List (Int × Value), List.Perm order es.toList ∧ acc.toList = order.map (·.2)
theorem took_of {order : List (Int × Value)} {acc : Array Value} (hp : List.Perm order es.toList) (h : ItemsOf (fun i v => ∃ z, order[i]? = some (z, v)) acc es.size) : Took es acc := by
  refine ⟨order, hp, List.ext_getElem? fun i => ?_⟩
  have hl : order.length = es.size := by rw [hp.length_eq, Array.length_toList]
  rw [Array.getElem?_toList, List.getElem?_map]
  cases e : acc[i]? with
  | none =>
    have : acc.size ≤ i := Array.getElem?_eq_none_iff.mp e
    rw [List.getElem?_eq_none (by rw [hl, ← h.1]; exact this)]
    rfl
  | some v =>
    obtain ⟨z, hz⟩ := h.2 i v e
    rw [hz]
    rfl
theorem set_extend {R : Result → Shared → Prop} (hh : A.handled = none) (hs : SetAt s.heap S es ep t) (hf : t.fits es.size = true) (ht : TabOk (ledOf w) t) (hz : es.size < scanBound) (L : Addr) (hLS : L ≠ S) (res : Value) (c₀ : Nat) (hL : s.heap.get? L = some { cls := .type "list", data := .seq #[] c₀ })
    (hR : ∀ h' d' tk acc' c', (∀ b o, b ≠ L → s.heap.get? b = some o → h'.get? b = some o) → h'.get? L = some { cls := .type "list", dict := none, data := .seq acc' c', slots := #[] } → Took es acc' → R (.ok (.ret res)) { s with heap := h', drawn := d', toks := tk }) :
    wpAny (model prog w) A.in1 (Builtin.List.listExtendWith (.ref L) (.ref S) res) (fun fin s' => match fin with | .done f => R (.ok f) s' | .again c' => c'.quiet = true ∧ codeAny (model prog w) A c' R s') (fun e s' => R (.error e) s') s := by
  refine L2.put_away fun G'2226x3 h'2226x3 => ?_
  obtain ⟨oS, hoS, hex, hdS⟩ := id hs
  refine h'2226x3 ?_
  have hT : s.TypeIs (.ref S) "set" := ⟨_, hoS, hex.1⟩
  have hlt : L < s.heap.objs.size := Heap.lt_size hL
  unfold Builtin.List.listExtendWith
  refine wpAny_bind (wpAny_typeOf hT ?_)
  have h1 : Builtin.List.listSameRef (.ref L) (.ref S) = false := by simp [Builtin.List.listSameRef, hLS]
  have h2 : (Value.type "set" == Value.type "list") = false := by decide
  have h3 : (Value.type "set" == Value.type "tuple") = false := by decide
  simp only [h1, h2, h3, Bool.or_false, Bool.false_eq_true, if_false]
  refine wpAny_bind (set_iter (A := A.in1) hh hs hf ht hz fun I fp order St h1 d1 hp W st keep hfp hI => ?_)
  have hLf : L ∉ fp := fun m => by
    rcases hfp L m with z | z
    · exact hLS z
    · exact absurd hlt (Nat.not_lt.mpr z)
  have hL1 := keep _ _ hL
  have hT1 : Shared.TypeIs { s with heap := h1, drawn := d1 } (.ref S) "set" := ⟨_, keep _ _ hoS, hex.1⟩
  have key : ∀ (h : Heap) (c₁ : Nat), St 0 h → (∀ b o, b ≠ L → s.heap.get? b = some o → h.get? b = some o) → h.get? L = some { cls := .type "list", data := .seq #[] c₁ } → codeAny (model prog w) A (.builtin "list.extend.loop" ⟨[.ref L, .ref I, res], []⟩) R { s with heap := h, drawn := d1 } := by
    intro h c₁ hst hk hL₁
    refine codeAny_extend_loopS W.toS (fits_of_scanBound hz) L hLf res es.size 0 _ #[] c₁ rfl (Nat.zero_le _) hst hL₁ (ItemsOf.nil _) fun s' acc' c' hm hL' hacc => ?_
    rw [Moved.eq_with hm]
    refine hR s'.heap d1 s'.toks acc' c' (fun b o hb e => hm.heap b o (fun z => ?_) (hk b o hb e)) hL' (took_of hp hacc)
    rcases List.mem_cons.mp z with z | z
    · exact hb z
    · have h9 := Heap.lt_size e
      rw [List.mem_singleton.mp z] at h9
      exact absurd h9 (Nat.not_lt.mpr hI)
  refine wpAny_bind (wpAny_holding (set_hint hT1 ?_))
  refine wpAny_ite_split (fun _ => ?_) (fun _ => wpAny_pure ⟨plainId_quiet PySem.F.plain_extend_loop _, key _ c₀ st (fun b o _ e => keep b o e) hL1⟩)
  refine wpAny_bind (wpAny_rule (wpAny_bind ?_))
  show wpAny _ _ (updateSeq L (·.push .none) >>= fun _ => updateSeq L (·.pop)) _ _ _
  refine wpAny_bind (wpAny_updateSeq hL1 rfl ?_)
  have hL₂ := Heap.get?_update_self (Obj.mapSeq (·.push Value.none)) hL1 rfl
  refine wpAny_updateSeq (hz := by seq_fits) hL₂ rfl ?_
  have hL₃ := Heap.get?_update_self (Obj.mapSeq (·.pop)) hL₂ rfl
  refine wpAny_pure ⟨plainId_quiet PySem.F.plain_extend_loop _, key _ _ ?_ (fun b o hb e => ?_) hL₃⟩
  · refine W.frame 0 _ _ st fun b hb o e => ?_
    have hbL : b ≠ L := fun z => hLf (z ▸ hb)
    exact (Heap.get?_update_other _ _ (Ne.symm hbL)).trans ((Heap.get?_update_other _ _ (Ne.symm hbL)).trans e)
  · exact (Heap.get?_update_other _ _ (Ne.symm hb)).trans ((Heap.get?_update_other _ _ (Ne.symm hb)).trans (keep _ _ e))
theorem set_collect {R : List Value → Shared → Prop} (hh : A.handled = none) (hs : SetAt s.heap S es ep t) (hf : t.fits es.size = true) (ht : TabOk (ledOf w) t) (hz : es.size < scanBound)
    (h : ∀ (h' : Heap) (d' : Drawn) (tk : Nat) (acc : Array Value), (∀ b o, s.heap.get? b = some o → h'.get? b = some o) → Took es acc → R acc.toList { s with heap := h', drawn := d', toks := tk }) :
    wpAny (model prog w) A (collect (.ref S)) R E s := by
  refine L2.put_away fun G'2227x3 h'2227x3 => ?_
  obtain ⟨oS, hoS, hex, hdS⟩ := id hs
  refine h'2227x3 ?_
  have hlt : S < s.heap.objs.size := Heap.lt_size hoS
  unfold collect
  refine wpAny_bind (wpAny_runValue (codeAny_builtin entry_proto_collect' ?_))
  rw [Around.under_plainId PySem.F.plain_proto_collect _]
  refine wpAny_bind (m := newList []) (wpAny_newObj_type ?_)
  refine wpAny_pure ⟨plainId_quiet PySem.F.plain_list_iadd _, codeAny_builtin entry_list_iadd' ?_⟩
  rw [Around.under_plainId PySem.F.plain_list_iadd _]
  have hL : (s.heap.push { cls := .type "list", data := .seq ([] : List Value).toArray }).get? s.heap.objs.size = some { cls := .type "list", data := .seq #[] } := Heap.get?_push_size _ rfl
  have key := set_extend (prog := prog) (A := A) (s := { s with heap := s.heap.push { cls := .type "list", data := .seq ([] : List Value).toArray } })
    (R := fun (q : Result) (s' : Shared) => ∃ (h' : Heap) (d' : Drawn) (tk : Nat) (acc' : Array Value) (c' : Nat), q = .ok (.ret (.ref s.heap.objs.size)) ∧ s' = { s with heap := h', drawn := d', toks := tk } ∧ (∀ b o, s.heap.get? b = some o → h'.get? b = some o) ∧ h'.get? s.heap.objs.size = some { cls := .type "list", dict := none, data := .seq acc' c', slots := #[] } ∧ Took es acc')
    hh (hs.keep fun o e => Heap.get?_push_of_some _ e) hf ht hz s.heap.objs.size (Nat.ne_of_gt hlt) (.ref s.heap.objs.size) 0 hL
    (fun h' d' tk acc' c' hk hS' hacc => ⟨h', d', tk, acc', c', rfl, rfl, fun b o e => hk b o (Nat.ne_of_lt (Heap.lt_size e)) (Heap.get?_push_of_some _ e), hS', hacc⟩)
  show wpAny _ A.in1 (Builtin.List.listExtendWith (.ref s.heap.objs.size) (.ref S) (.ref s.heap.objs.size)) _ _ _
  refine wpAny_mono key (fun fin s' x => ?_) fun e s' x => ?_
  · cases fin with
    | done f =>
      refine L2.put_away fun G'2227x20 h'2227x20 => ?_
      obtain ⟨h', d', tk, acc', c', e, rfl, hk, hS', hacc⟩ := x
      refine h'2227x20 ?_
      cases e
      exact wpAny_bind (wpAny_load hS' (wpAny_pure (h h' d' tk acc' hk hacc)))
    | again c₁ =>
      refine ⟨x.1, codeAny_mono x.2 fun q s₂ y => ?_⟩
      refine L2.put_away fun G'2227x25 h'2227x25 => ?_
      obtain ⟨h', d', tk, acc', c', rfl, rfl, hk, hS', hacc⟩ := y
      refine h'2227x25 ?_
      exact wpAny_bind (wpAny_load hS' (wpAny_pure (h h' d' tk acc' hk hacc)))
  · refine L2.put_away fun G'2227x27 h'2227x27 => ?_
    obtain ⟨_, _, _, _, _, e', _⟩ := x
    refine h'2227x27 ?_
    cases e'
end
end L2
namespace L2
open PySem PySem.Spec PySem.Calls PyProof.Rows
noncomputable def setO (prog : Program) (w : World) (a : Addr) (S : Int → Bool) (n : Nat) : HO := .ext fun h => SetG prog w h a S n
theorem vals_of_ints : ∀ {us : List Value} {ns : List Int}, IntsAre us ns → Vals (ns.map V.int) us
  | _, _, .nil => .nil
  | _, _, .cons n t h => .cons ⟨t, rfl⟩ (vals_of_ints h)
theorem ints_kind {prog : Program} {w : World} : ∀ {l : List Value}, (∀ v ∈ l, ∃ k, (intKind prog w).is k v = true) → ∃ ns, IntsAre l ns ∧ ∀ k, k ∈ ns ↔ ∃ v ∈ l, (intKind prog w).is k v = true
  | [], _ => ⟨[], .nil, fun k => by simp⟩
  | v :: l, h => by
    refine L2.put_away fun G'2234x3 h'2234x3 => ?_
    obtain ⟨ns, h1, h2⟩ := ints_kind (l := l) fun x hx => h x (by simp [hx])
    refine h'2234x3 ?_
    obtain ⟨k, hk⟩ := h v (by simp)
    obtain ⟨t, rfl⟩ := Value.isInt_shape (show Value.isInt k v = true from hk)
    refine ⟨k :: ns, .cons k t h1, fun j => ?_⟩
    rw [List.mem_cons, h2 j]
    constructor
    · rintro (rfl | ⟨x, hx, e⟩)
      · exact ⟨_, .head _, hk⟩
      · exact ⟨x, .tail _ hx, e⟩
    · rintro ⟨x, hx, e⟩
      rcases List.mem_cons.mp hx with rfl | hx
      · exact .inl ((intKind prog w).inj _ _ _ e hk)
      · exact .inr ⟨x, hx, e⟩
theorem Inv.dr {X : Cx} {pins : List (Addr × Obj)} {σ : St} {H : Hp} {s : Shared} {d' : Drawn} (I : Inv X pins σ H s) : Inv X pins σ H { s with drawn := d' } := ⟨I.ok, I.os, I.bare, I.base, I.loc, I.cell, I.free, I.freeC, I.pin, I.hok, I.len⟩
section
variable {prog : Program} {w : World} {A : Around} {E : Value → Shared → Prop} {s : Shared}
theorem call_sortedG {S : Addr} {f : Int → Bool} {n : Nat} {Q : Value → Shared → Prop} (hh : A.handled = none) (hS : SetG prog w s.heap S f n) (hn : n < 64)
    (h : ∀ (h1 h' : Heap) (d' : Drawn) (tk : Nat) (out : Array Value) (ns : List Int) (c : Nat), (∀ b o, s.heap.get? b = some o → h1.get? b = some o) → (∀ b o, h1.get? b = some o → h'.get? b = some o) → h'.get? h1.objs.size = some { cls := .type "list", data := .seq out c } → IntsAre out.toList ns → ns.length = n → (∀ k, f k = true ↔ k ∈ ns) → ns.Pairwise (· ≤ ·) →
      Q (.ref h1.objs.size) { s with heap := h', drawn := d', toks := tk }) : wpAny (model prog w) A (call (.builtin "sorted") [.ref S]) Q E s := by
  refine L2.put_away fun G'2238x3 h'2238x3 => ?_
  obtain ⟨o, es, ep, t, ho, hex, hd, hel, hmem, hb, hf, rfl, ht⟩ := hS
  refine h'2238x3 ?_
  refine call_function_entry kind_sorted plain_sorted entry_sorted (args_sorted1 _) ?_
  unfold Builtin.«sorted»
  refine wpAny_bind (m := checkCount "sorted" 1 1 _) (wpAny_pure ?_)
  refine wpAny_bind (set_collect (A := A.in1) hh ⟨_, ho, hex, hd⟩ hf ht hb fun h1 d1 tk acc keep took => ?_)
  refine L2.put_away fun G'2238x8 h'2238x8 => ?_
  obtain ⟨order, hp, ea⟩ := took
  refine h'2238x8 ?_
  have hl : acc.toList.length = es.size := by rw [ea, List.length_map, hp.length_eq, Array.length_toList]
  obtain ⟨ns, hI, hns⟩ := ints_kind (prog := prog) (w := w) (l := acc.toList) fun v hv => by
    rw [ea] at hv
    refine L2.put_away fun G'2238x12 h'2238x12 => ?_
    obtain ⟨e, he, rfl⟩ := List.mem_map.mp hv
    refine h'2238x12 ?_
    refine L2.put_away fun G'2238x13 h'2238x13 => ?_
    obtain ⟨k, hk, _⟩ := (hel e (hp.mem_iff.mp he)).1
    refine h'2238x13 ?_
    exact ⟨k, hk⟩
  refine wpAny_bind (wpAny_newList ?_ (by rw [hl]; exact fits_of_scanBound hb))
  have hD : (h1.push { cls := .type "list", data := .seq acc.toList.toArray }).get? h1.objs.size = some (seqObj "list" acc.toList.toArray 0) := Heap.get?_push_size _ rfl
  refine wpAny_bind (wpAny_holding (wpAny_call_entry slot_list_sort ⟨_, hD, rfl⟩ entry_list_sort (list_sort_tree hD hI (by (clear hmem hb hf h ea hns hD; omega)) fun out ns' hI' hpn hpw => ⟨.none, rfl, ?_⟩) (args_list_sort _)))
  obtain ⟨c, hc⟩ := sortedHeap_at (out := out) hD
  refine wpAny_pure ⟨_, rfl, h h1 _ d1 tk out ns' c keep (fun b o e1 => ?_) hc hI' ?_ (fun k => ?_) hpw⟩
  · rw [sortedHeap_old (Nat.ne_of_lt (Heap.lt_size e1)) (by rw [size_push']; exact Nat.lt_succ_of_lt (Heap.lt_size e1))]
    exact Heap.get?_push_of_some _ e1
  · rw [hpn.length_eq, ← hI.length, hl]
  · rw [hpn.mem_iff, hns k, hmem k, ea]
    constructor
    · rintro ⟨e, he, q⟩
      exact ⟨e.2, List.mem_map.mpr ⟨e, hp.mem_iff.mpr he, rfl⟩, q⟩
    · rintro ⟨v, hv, q⟩
      refine L2.put_away fun G'2238x28 h'2238x28 => ?_
      obtain ⟨e, he, rfl⟩ := List.mem_map.mp hv
      refine h'2238x28 ?_
      exact ⟨e, hp.mem_iff.mp he, q⟩
end
section
variable {X : Cx}
theorem call_setI (hc : X.calm = true) : CallR X (.type "set") (fun vs H Q => ∃ (a : Addr) (ns : List Int), vs = [.ref a] ∧ SqL X.K H a (ns.map V.int) ∧ ns.length ≤ 4000 ∧ ∀ (D : Addr) (f : Int → Bool) (n : Nat), H D = none → n ≤ ns.length → (∀ k, f k = true ↔ k ∈ ns) → Q (.ref D) (upd H D (setO X.prog X.w D f n))) := by
  intro pins s σ H vs us Q I r h
  refine L2.put_away fun G'2242x2 h'2242x2 => ?_
  obtain ⟨a, ns, rfl, hq, hn, q⟩ := h
  refine h'2242x2 ?_
  refine L2.put_away fun G'2242x3 h'2242x3 => ?_
  obtain ⟨u, rfl, r1⟩ := Vals.one r
  refine h'2242x3 ?_
  cases r1
  refine L2.put_away fun G'2242x5 h'2242x5 => ?_
  obtain ⟨its, rv, pl, hz⟩ := I.list hq
  refine h'2242x5 ?_
  have hi : IntsAre its ns := intsAre_of rv
  have hl : its.length = ns.length := hi.length
  refine call_setG (items := its.toArray) (ns := ns) (I.ok.hd hc) pl.isList hi (by rw [List.size_toArray, hl]; show _ < 4096; (clear q hz hl; omega)) fun h' tk hS keep => ?_
  have hsz : its.toArray.size = ns.length := by rw [List.size_toArray, hl]
  rw [hsz] at hS
  refine ⟨.ref s.heap.objs.size, upd H s.heap.objs.size (setO X.prog X.w s.heap.objs.size (fun k' => (firstMet (fun i => ns.getD i 0) ns.length).any (· == k')) (firstMet (fun i => ns.getD i 0) ns.length).length), I.laid (t' := tk) keep (Nat.le_refl _) ?_, rfl, q _ _ _ I.fresh (firstMet_length_le _ _) fun k => ?_⟩
  · refine L2.put_away fun G'2242x12 h'2242x12 => ?_
    obtain ⟨o, es, ep, t, ho, r⟩ := id hS
    refine h'2242x12 ?_
    exact ⟨hS, ⟨_, ho⟩, fun h1 h2 x k => x.keep k⟩
  · rw [firstMet_any, List.any_eq_true]
    constructor
    · rintro ⟨x, hx, e⟩
      refine L2.put_away fun G'2242x17 h'2242x17 => ?_
      obtain ⟨i, hi', rfl⟩ := List.mem_map.mp hx
      refine h'2242x17 ?_
      have hlt := List.mem_range.mp hi'
      have e2 : ns.getD i 0 = k := by simpa using e
      rw [← e2]
      simp [List.getD, hlt]
    · intro hk
      refine L2.put_away fun G'2242x23 h'2242x23 => ?_
      obtain ⟨i, hi', e⟩ := List.mem_iff_getElem.mp hk
      refine h'2242x23 ?_
      exact ⟨ns.getD i 0, List.mem_map.mpr ⟨i, List.mem_range.mpr hi', rfl⟩, by simp [List.getD, hi', e]⟩
theorem call_sortedI (hc : X.calm = true) : CallR X (.builtin "sorted") (fun vs H Q => ∃ (S : Addr) (f : Int → Bool) (n : Nat), vs = [.ref S] ∧ H S = some (setO X.prog X.w S f n) ∧ n < 64 ∧ ∀ (D : Addr) (ns : List Int), H D = none → ns.length = n → (∀ k, f k = true ↔ k ∈ ns) → ns.Pairwise (· ≤ ·) → Q (.ref D) (upd H D (.lst (ns.map V.int)))) := by
  intro pins s σ H vs us Q I r h
  refine L2.put_away fun G'2243x2 h'2243x2 => ?_
  obtain ⟨S, f, n, rfl, hS, hn, q⟩ := h
  refine h'2243x2 ?_
  refine L2.put_away fun G'2243x3 h'2243x3 => ?_
  obtain ⟨u, rfl, r1⟩ := Vals.one r
  refine h'2243x3 ?_
  cases r1
  have hG : SetG X.prog X.w s.heap S f n := (I.hok S _ hS).1
  refine call_sortedG (I.ok.hd hc) hG hn fun h1 h' d' tk out ns c k1 k2 hD hI hl hm hp => ?_
  have I1 : Inv X pins σ H { s with heap := h1, toks := tk } := I.kept k1
  have I2 : Inv X pins σ (upd H h1.objs.size (.lst (ns.map V.int))) { s with heap := h', toks := tk } := I1.laid (h' := h') (t' := tk) k2 (Nat.le_refl _) ⟨by rw [List.length_map, sizeLine_eq]; (clear q hm; omega), out.toList, c, vals_of_ints hI, by rw [Array.toArray_toList]; exact hD⟩
  exact ⟨.ref _, _, I2.dr, rfl, q _ ns I1.fresh hl hm hp⟩
end
end L2
namespace L2
open PySem PySem.Spec PyProof.Rows

theorem noteFrame_frame {e : Value} {env env' : Env} (h : env.frame = env'.frame) : noteFrame e env = noteFrame e env' := by
  unfold noteFrame PySem.frameOf
  rw [h]
theorem compLoop_anyX {prog : Program} {w : World} {A : Around} {R : Result → Shared → Prop} {s : Shared} {elt target iter : Expr} {ifs : List Expr} {scope : Scope} {pos : Pos} {it acc : Value} {env : Env} (J : Nat → Shared → Prop) (EE : Value → Shared → Prop)
    (turn : ∀ n s, J n s → wpAny (model prog w) A (pyNext it) (fun r s₁ => match r with
      | none => R (.ok .next) s₁
      | some v => wpAny (model prog w) A (letOwnedTupleGo target it v) (fun _ s₁' => wpAny (model prog w) A (assign target env v) (fun _ s₂ =>
          wpAny (model prog w) A (forIn ifs true fun c r => if r = true then do let ok ← isTrue c env (eval c env); pure (ForInStep.yield ok) else pure (ForInStep.yield r)) (fun ok s₃ =>
            if ok = true then wpAny (model prog w) A (eval elt env) (fun x s₄ =>
              wpAny (model prog w) A (call (.builtin "list.append") [acc, x]) (fun _ s₅ => ∃ m, m < n ∧ J m s₅) EE s₄) EE s₃
            else ∃ m, m < n ∧ J m s₃) EE s₂) EE s₁') (fun _ _ => False) s₁) (fun _ _ => False) s)
    (hE : ∀ e s', EE e s' → notedBy (model prog w) A env (fun e s' => R (.error e) s') e s') (n : Nat) (h : J n s) : codeAny (model prog w) A (.compLoop (.ListComp elt [⟨target, iter, ifs, 0⟩] scope pos) 0 it acc env) R s := by
  refine codeAny_loop rfl J (fun n s hI => ?_) n h
  show wpAny _ A ((compTurn (.ListComp elt [⟨target, iter, ifs, 0⟩] scope pos) 0 it acc env).onRaise (fun x => do noteFrame x env; theTreesLotGoes x)) _ _ s
  refine wpAny_noted ?_
  rw [compTurn_list]
  refine wpAny_bind (wpAny_standAt (wpAny_bind (wpAny_mono (turn n s hI) (fun r s₁ h₁ => ?_) fun _ _ h' => h'.elim)))
  cases r with
  | none => exact wpAny_pure h₁
  | some v =>
    refine wpAny_bind (wpAny_mono h₁ (fun _ s₁' h₁' => ?_) fun _ _ h' => h'.elim)
    refine wpAny_bind (wpAny_mono h₁' (fun _ s₂ h₂ => wpAny_bind (wpAny_mono h₂ (fun ok s₃ h₃ => ?_) hE)) hE)
    cases ok with
    | false => exact wpAny_pure ⟨rfl, h₃⟩
    | true => exact wpAny_bind (wpAny_bind (wpAny_mono h₃ (fun x s₄ h₄ => wpAny_bind (wpAny_mono h₄ (fun _ s₅ h₅ => wpAny_pure (wpAny_pure ⟨rfl, h₅⟩)) hE)) hE))


noncomputable def cxCompX (X : Cx) (N : List Str) (scope : Scope) (cl : List (Str × Addr)) (s : Shared) (H : Hp) (fp : List Addr) (E : XK) : Cx :=
  (cxComp X N scope cl s H fp).wish fun e s' => ∃ pins σ H1 s1, Inv (cxComp X N scope cl s H fp) pins σ H1 s1 ∧ CXx X.prog X.w X.stack H1 s1 E e s'
theorem cxCompX_K {X : Cx} {N : List Str} {scope : Scope} {cl : List (Str × Addr)} {s : Shared} {H : Hp} {fp : List Addr} {E : XK} : (cxCompX X N scope cl s H fp E).K = X.K := rfl
theorem passC {X : Cx} {N : List Str} {scope : Scope} {cl : List (Str × Addr)} {s : Shared} {H : Hp} {fp : List Addr} {E : XK} : Passes (CXx X.prog X.w) (cxCompX X N scope cl s H fp E) E := fun pins σ H1 s1 e s' I h => ⟨pins, σ, H1, s1, I.unwish, h⟩
section
variable {X : Cx} {pins : List (Addr × Obj)} {σ : St} {H : Hp} {s : Shared}
noncomputable def FlyFl (X : Cx) (pins : List (Addr × Obj)) (H : Hp) (h : Heap) (a : Addr) (cls : Value) : Prop :=
  ∃ oe vs T oT ts a0 fl, h.get? a = some oe ∧ (oe.cls = cls ∧ vs[0]? = some a0) ∧ oe.data = .fields vs ∧ vs[1]? = some (.ref T) ∧ T ≠ a ∧ h.get? T = some oT ∧ oT.data = .fields ts ∧ ts[3]? = some fl ∧ ∀ b ∈ [a, T], Ap X pins b ∧ H b = none
noncomputable def OnX (X : Cx) (E : XK) : Prop := ∀ (pins : List (Addr × Obj)) (σ : St) (H : Hp) (s : Shared) (a : Addr) (cls : Value), Inv X pins σ H s → FlyFl X pins H s.heap a cls → E cls (some a) H → X.xe (.ref a) s
theorem leaving_flW {M : Model} {A : Around} {E : Value → Shared → Prop} {base : Heap} {env : Env} {outer : List Env} {L e : Addr} {cls a0 fl : Value} {Q : Unit → Shared → Prop}
    (hfr : A.frames = some (env :: outer)) (hl : s.heap.FunFrames base (env :: outer)) (hf : env.frame = some L) (ht : s.heap.TracedAtW base e cls a0 fl) (hkb : base.StaysIn s.heap) (hen : base.get? e = none)
    (h : ∀ h', Heap.LeftW base (env :: outer) e cls a0 s.heap h' → Q () { s with heap := h' }) : wpAny M A (leaving env (.ref e)) Q E s := by
  by_cases c : fl = rawInt L
  · subst c
    unfold leaving
    refine wpAny_bind (wpAny_noteFrame_againW hf ht ?_)
    exact wpAny_setFlight_noneW hkb hl ht fun h' k1 k2 k3 k4 => h h' ⟨k1, k2, k3, fun b o hb hn => ⟨o.slots, k4 b o hb hn⟩⟩
  · refine L2.put_away fun G'2258x8 h'2258x8 => ?_
    obtain ⟨oe, vs, T, oT, ts, he, ⟨hcls, h0⟩, hd, h1, hnT, hTe, hT, hdT, h3⟩ := ht
    refine h'2258x8 ?_
    subst hcls
    have oth : ∀ {f : Obj → Obj} b, b ≠ T → (s.heap.update T f).get? b = s.heap.get? b := fun {f} b hb => Heap.get?_update_other _ _ (Ne.symm hb)
    have nrec : ∀ {b : Addr} {o : Obj}, s.heap.get? b = some o → (∀ vs, o.data ≠ .fields vs) → b ≠ T := fun {b o} hb n q => by
      rw [q, hT] at hb
      cases hb
      exact n _ hdT
    unfold leaving noteFrame
    simp only [hf]
    refine wpAny_bind (wpAny_bind (wpAny_field he hd h1 ?_))
    rw [if_pos (by simp)]
    refine wpAny_bind (wpAny_field hT hdT h3 ?_)
    rw [if_neg (by simpa using c)]
    refine wpAny_bind (wpAny_setField hT hdT (Array.getElem?_eq_some_iff.mp h3).1 ?_)
    refine wpAny_newEntryW hfr (hl.of_keeps fun b o hb n => ⟨o, by rw [oth b (nrec hb n)]; exact hb, rfl⟩) hf (by rw [oth e (Ne.symm hTe)]; exact he)
      (fun b o hb => by rw [oth b (fun q => by rw [q, hnT] at hb; cases hb)]; exact hkb b o hb) hen hd (Array.getElem?_eq_some_iff.mp h1).1 h0 fun h' L => ?_
    refine L2.put_away fun G'2258x24 h'2258x24 => ?_
    obtain ⟨x1, x2, x3, x4⟩ := L
    refine h'2258x24 ?_
    exact h h' ⟨x1, x2, x3, fun b o hb n => x4 b o (by rw [oth b (nrec hb n)]; exact hb) n⟩
theorem onX_cx {P : Program} {w : World} {K : PySem.W.Frag} {mg : Str → Option Value} {base : Heap} {N : List Str} {qual : Str} {scope : Scope} {f : Addr} {cd : Value} {A : Around} {outer : List Env} {s : Shared} {H : Hp} {E : XK} :
    OnX (cxOf (CXx P w) P w K mg base N qual scope f cd A outer s H E) E := fun pins σ H1 s1 e cls I x q => by
  refine L2.put_away fun G'2259x2 h'2259x2 => ?_
  obtain ⟨oe, vs, T, oT, ts, a0, fl, he, hc, hd, h1, hTe, hT, hdT, h3, has⟩ := x
  refine h'2259x2 ?_
  have hF : s1.heap.FunFrames base (envOfC qual scope s.heap.objs.size f cd :: outer) := I.stack
  have hnw : ∀ b ∈ frs (envOfC qual scope s.heap.objs.size f cd :: outer), b ∉ frs outer → s.heap.get? b = none := fun b hb hn => by
    rcases List.mem_cons.mp hb with rfl | hb
    · exact Heap.get?_none_of_le (Nat.le_refl _)
    · exact absurd hb hn
  have hasE : ∀ a ∈ [e, T], s.heap.get? a = none ∧ H1 a = none := fun a ha => ⟨(has a ha).1.1, (has a ha).2⟩
  refine leaving_flW (base := PySem.W.hideAll s1.heap (frs (envOfC qual scope s.heap.objs.size f cd :: outer) ++ [e, T])) (outer := outer) (L := s.heap.objs.size) (cls := cls) (a0 := a0) (fl := fl) I.ok.frames
    (PySem.W.funFrames_hide hF fun env z a ha => List.mem_append_left _ (List.mem_filterMap.mpr ⟨env, z, ha⟩)) rfl ⟨oe, vs, T, oT, ts, he, hc, hd, h1, PySem.W.hideAll_none _ (by simp), hTe, hT, hdT, h3⟩
    (fun b o z => PySem.W.of_hideAll _ z) (PySem.W.hideAll_none _ (by simp)) fun h2 L => ?_
  refine L2.put_away fun G'2259x12 h'2259x12 => ?_
  obtain ⟨x1, x2, x3⟩ := left_fly (P := P) (w := w) (base := base) (outer := outer) (s := s) (H := H) (H1 := H1) (as := [e, T]) rfl hasE (by simp) I.stkFree (fun b hb => List.mem_cons_of_mem _ hb) hnw I.base I.hok L hF
  refine h'2259x12 ?_
  exact ⟨e, cls, H1, rfl, I.os, I.bare, x1, x2, x3, q⟩
theorem comp_out {E : XK} {a C : Addr} {cls : Value} {m : Str → Option Value} {cenv : Env} (hx : X.ex = []) (hst : X.stack = X.env :: X.outer) (hf : X.env.frame = some X.env.locals) (hE : OnX X E) (hce : cenv.frame = X.env.frame)
    (I : Inv X pins σ H s) (fl : FlyAt X pins H s.heap a cls) (hn : s.heap.Ns C m) (hC : Ap X pins C ∧ H C = none) (q : E cls (some a) H) :
    notedBy (model X.prog X.w) X.A cenv (fun x s' => ∃ m, s'.heap.Ns C m ∧ ∀ h', Heap.SameBut C s'.heap h' → ∀ cenv : Env, cenv.locals = C → wpAny (model X.prog X.w) X.A (PySem.passOn "comprehension.variables-let-go" x cenv : Sem Value) (fun _ _ => False) X.xe { s' with heap := h' }) (.ref a) s := by
  refine L2.put_away fun G'2260x3 h'2260x3 => ?_
  obtain ⟨oe, vs, T, oT, ts, a0, he, hc, hd, hv1, hTe, hT, hdT, h3, has⟩ := fl
  refine h'2260x3 ?_
  have nsF : ∀ {h : Heap} {m : Str → Option Value} {b : Addr} {o : Obj} {vs : Array Value}, h.Ns C m → h.get? b = some o → o.data = .fields vs → b ≠ C := fun {h m b o vs} n e d z => by
    refine L2.put_away fun G'2260x5 h'2260x5 => ?_
    obtain ⟨o', _, _, e', d', _⟩ := n
    refine h'2260x5 ?_
    rw [z, e'] at e
    cases e
    rw [d'] at d
    cases d
  have hFB : s.heap.FunFrames (PySem.W.hideAll s.heap (frs X.stack ++ [a, T, C])) X.stack := PySem.W.funFrames_hide I.stack fun env z b hb => List.mem_append_left _ (List.mem_filterMap.mpr ⟨env, z, hb⟩)
  have hfl : Heap.FlyingW (PySem.W.hideAll s.heap (frs X.stack ++ [a, T, C])) X.stack a cls a0 s.heap :=
    ⟨fun b o z => PySem.W.of_hideAll _ z, PySem.W.hideAll_none _ (by simp), hFB, oe, vs, T, oT, ts, he, hc, hd, hv1, PySem.W.hideAll_none _ (by simp), hTe, hT, hdT, h3⟩
  have hfr := I.ok.frames
  show wpAny _ X.A (noteFrame (.ref a) cenv) _ _ s
  rw [noteFrame_frame hce]
  refine wpAny_looks_onW (base := PySem.W.hideAll s.heap (frs X.stack ++ [a, T, C])) (outer := X.outer) (cls := cls) (a0 := a0) (by rw [hfr, hst]) hf (by rw [← hst]; exact hfl) fun h4 hheld sm4 => ?_
  refine ⟨m, sm4.ns hn, fun h' sb cenv' _ => ?_⟩
  refine L2.put_away fun G'2260x18 h'2260x18 => ?_
  obtain ⟨k1, _, k2, oe4, vs4, T4, oT4, ts4, he4, hc4, hd4, hv4, hnT4, hTe4, hT4, hdT4, h34⟩ := hheld
  refine h'2260x18 ?_
  rw [← hst] at k2
  have na : a ≠ C := nsF (sm4.ns hn) he4 hd4
  have nT : T4 ≠ C := nsF (sm4.ns hn) hT4 hdT4
  have he' := (sb.2 a na).trans he4
  have hT' := (sb.2 T4 nT).trans hT4
  have sz3 : 3 < ts4.size := (Array.getElem?_eq_some_iff.mp h34).1
  have up : ∀ {f : Obj → Obj} (b : Addr), b ≠ T4 → (h'.update T4 f).get? b = h'.get? b := fun {f} b hb => Heap.get?_update_other _ _ (Ne.symm hb)
  have fin : ∀ x : Value, X.xe (.ref a) { s with heap := h'.update T4 (Obj.mapFields (·.setIfInBounds 3 x)) } := fun x => by
    have hTf : T4 ∉ frs X.stack := fun z => by
      refine L2.put_away fun G'2260x28 h'2260x28 => ?_
      obtain ⟨_, o, ho, hn⟩ := k2.mem z
      refine h'2260x28 ?_
      rw [hT4] at ho
      cases ho
      exact hn _ hdT4
    have keep : ∀ b o, b ∉ frs X.stack ++ [a, T, C] → s.heap.get? b = some o → (h'.update T4 (Obj.mapFields (·.setIfInBounds 3 x))).get? b = some o := fun b o hb e => by
      have e1 := k1 b o (PySem.W.hideAll_get _ e hb)
      have n1 : b ≠ C := fun z => hb (by rw [z]; simp)
      have n2 : b ≠ T4 := fun z => by
        have := PySem.W.hideAll_get (h := s.heap) _ e hb
        rw [z, hnT4] at this
        cases this
      rw [up b n2]
      exact (sb.2 b n1).trans e1
    have slot : ∀ b o, b ∈ frs X.stack → s.heap.get? b = some o → ∃ sl, (h'.update T4 (Obj.mapFields (·.setIfInBounds 3 x))).get? b = some { o with slots := sl } := fun b o hb e => by
      refine L2.put_away fun G'2260x42 h'2260x42 => ?_
      obtain ⟨_, o', ho', hn'⟩ := I.stack.mem hb
      refine h'2260x42 ?_
      rw [e] at ho'
      cases ho'
      obtain ⟨sl, e1⟩ := sm4 b o e hn'
      have n1 : b ≠ C := fun z => by
        rw [z, hst] at hb
        rcases List.mem_cons.mp (show C ∈ X.env.locals :: frs X.outer by unfold frs at hb ⊢; rw [List.filterMap_cons, hf] at hb; exact hb) with q | q
        · exact hC.1.2.1 q
        · exact hC.1.2.2.2.1 q
      have n2 : b ≠ T4 := fun z => hTf (by rw [← z]; exact hb)
      exact ⟨sl, by rw [up b n2]; exact (sb.2 b n1).trans e1⟩
    have has3 : ∀ b ∈ [a, T, C], Ap X pins b ∧ H b = none := fun b hb => by
      simp only [List.mem_cons, List.not_mem_nil, or_false] at hb
      rcases hb with rfl | rfl | rfl
      · exact has _ (by simp)
      · exact has _ (by simp)
      · exact hC
    have I' := I.fly (as := [a, T, C]) has3 keep slot
    have hT4' : Ap X pins T4 ∧ H T4 = none := by
      cases e : s.heap.get? T4 with
      | none =>
        refine ⟨I.ap hx e, ?_⟩
        cases z : H T4 with
        | none => rfl
        | some o =>
          obtain ⟨o', e'⟩ := ObjOk.there (I.hok T4 o z)
          rw [e] at e'
          cases e'
      | some o =>
        refine has3 T4 ?_
        by_cases z : T4 ∈ frs X.stack ++ [a, T, C]
        · exact (List.mem_append.mp z).elim (fun y => absurd y hTf) id
        · have := PySem.W.hideAll_get (h := s.heap) _ e z
          rw [hnT4] at this
          cases this
    refine hE pins σ H _ a cls I' ⟨oe4, vs4, T4, _, _, a0, x, by rw [up a (Ne.symm hTe4)]; exact he', hc4, hd4, hv4, hTe4, Heap.get?_update_self _ hT' (Obj.isFreed_of_fields (Obj.data_mapFields hdT4 _)), Obj.data_mapFields hdT4 _, by simp [sz3], fun b hb => ?_⟩ q
    rcases List.mem_cons.mp hb with rfl | hb
    · exact has _ (by simp)
    · rw [List.mem_singleton.mp hb]; exact hT4'
  unfold PySem.passOn
  refine wpAny_bind (wpAny_field he' hd4 hv4 ?_)
  rw [if_neg (by simp)]
  unfold setFlight
  refine wpAny_bind (wpAny_bind (wpAny_field he' hd4 hv4 ?_))
  rw [if_pos (by simp)]
  exact wpAny_setField hT' hdT4 sz3 (wpAny_throw (fin _))
end
theorem comp_coreX {X : Cx} {own capt : List Str} {scope : Scope} {cl : List (Str × Addr)} {fr : List Nat} {tg iter elt : Expr} {ifs : List Expr} {wi : TI} {g : TG} {tt : TT} {te : TE} {pos : Pos} {E : XK} (C : CompSc X own capt scope cl fr) (hc : X.calm = true)
    (hi : PI X tg iter wi) (hg : ∀ s H fp, PG (cxCompX X (own ++ capt) scope cl s H fp E) tg g) (ht : ∀ s H fp, PTs (cxCompX X (own ++ capt) scope cl s H fp E) ifs tt) (he : ∀ s H fp, PE (cxCompX X (own ++ capt) scope cl s H fp E) elt te)
    {pins : List (Addr × Obj)} {s : Shared} {σ : St} {H : Hp} {Q : VK} {RR : Value → Addr → Result → Shared → Prop} (hx : X.ex = []) (hst : X.stack = X.env :: X.outer) (hf : X.env.frame = some X.env.locals) (I : Inv X pins σ H s) (h : tComp wi g tt te own fr σ H Q)
    (hR : ∀ (D C : Addr) (H' : Hp) (s' : Shared) (m : Str → Option Value), s'.heap.Ns C m → FpOk X pins H' C → (∀ h', Heap.SameBut C s'.heap h' → Inv X pins σ H' { s' with heap := h' }) → Q (.ref D) H' → RR (.ref D) C (.ok .next) s')
    (hRE : ∀ (D C : Addr) (e : Addr) (cls : Value) (H' : Hp) (s' : Shared) (m : Str → Option Value), s'.heap.Ns C m → (Ap X pins C ∧ H' C = none) → Inv X pins σ H' s' → FlyAt X pins H' s'.heap e cls → E cls (some e) H' → ∀ cenv : Env, cenv.frame = X.env.frame → notedBy (model X.prog X.w) X.A cenv (fun x s'' => RR (.ref D) C (.error x) s'') (.ref e) s') :
    wpAny (model X.prog X.w) X.A (eval iter X.env) (fun x s₁ => wpAny (model X.prog X.w) X.A (pyIter x) (fun it s₂ => wpAny (model X.prog X.w) X.A (newList []) (fun acc s₃ =>
      wpAny (model X.prog X.w) X.A (newFunctionEnv scope X.env.globals cl [] X.env.qual none .none (some X.env)) (fun cenv s₄ =>
        codeAny (model X.prog X.w) X.A (.compStart (.ListComp elt [⟨tg, iter, ifs, 0⟩] scope pos) 0 it acc { cenv with scope := relabel scope X.env }) (RR acc cenv.locals) s₄) X.xe s₃) X.xe s₂) X.xe s₁) X.xe s := by
  refine thn (hi pins s σ H _ I h) fun v s1 h1 => thn h1 fun itv s2 h2 => ?_
  refine L2.put_away fun G'2262x9 h'2262x9 => ?_
  obtain ⟨it, fp, tn, J, H2, e, I2, T, st2, f2, h2⟩ := h2
  refine h'2262x9 ?_
  subst e
  refine L2.put_away fun G'2262x11 h'2262x11 => ?_
  obtain ⟨W, ⟨m0, w0⟩, turn⟩ := h2 s2.heap.objs.size I2.fresh
  refine h'2262x11 ?_
  refine wpAny_newObj_type ?_
  have I3 : Inv X pins σ (upd H2 s2.heap.objs.size (.lst [])) { s2 with heap := s2.heap.push { cls := .type "list", data := .seq ([] : List Value).toArray } } := I2.lnew (ys := []) (its := []) (t' := s2.toks) .nil (Nat.zero_le _)
  generalize hs3 : ({ s2 with heap := s2.heap.push { cls := .type "list", data := .seq ([] : List Value).toArray } } : Shared) = s3 at I3 ⊢
  have keep3 : ∀ b o, s2.heap.get? b = some o → s3.heap.get? b = some o := fun b o e => by rw [← hs3]; exact Heap.get?_push_of_some _ e
  have sz3 : s2.heap.objs.size < s3.heap.objs.size := by rw [← hs3]; show _ < (s2.heap.push _).objs.size; rw [Heap.size_push]; exact Nat.lt_succ_self _
  have fin : ∀ b ∈ fp, b < s2.heap.objs.size := fun b hb => by obtain ⟨o, e, _⟩ := T.obj _ _ st2 b hb; exact Heap.lt_size e
  have f3 : ∀ b ∈ fp, FpOk X pins (upd H2 s2.heap.objs.size (.lst [])) b ∧ b < s3.heap.objs.size := fun b hb => by
    obtain ⟨a1, a2⟩ := f2 b hb
    exact ⟨⟨by rw [upd_ne (Nat.ne_of_lt (fin b hb))]; exact a1, a2⟩, Nat.lt_trans (fin b hb) sz3⟩
  refine wpAny_newFunctionEnv C.nocell (by intro y hy; simp at hy) (fun h4 hn4 hs4 => ?_) C.kind
  have keep4 : ∀ b o, s3.heap.get? b = some o → h4.get? b = some o := fun b o e => (hs4.2 b (Nat.ne_of_lt (Heap.lt_size e))).trans (Heap.get?_push_of_some _ e)
  have I4 : Inv (cxCompX X (own ++ capt) scope cl s3 (upd H2 s2.heap.objs.size (.lst [])) fp E) [] (st0 own fr σ) (upd H2 s2.heap.objs.size (.lst [])) { s3 with heap := h4, toks := s3.toks + ([] : List (Str × Value)).length } := (cxComp_start C I3 f3 hn4 keep4).wish _
  have st4 : tn 0 h4 := T.keep _ _ _ st2 fun b _ o e => keep4 b o (keep3 b o e)
  generalize hs5 : ({ s3 with heap := h4, toks := s3.toks + ([] : List (Str × Value)).length } : Shared) = s5 at I4 ⊢
  have st5 : tn 0 s5.heap := by rw [← hs5]; exact st4
  generalize hX : cxCompX X (own ++ capt) scope cl s3 (upd H2 s2.heap.objs.size (.lst [])) fp E = Y at I4
  have hY1 : Y.prog = X.prog := by rw [← hX]; rfl
  have hY2 : Y.w = X.w := by rw [← hX]; rfl
  have hY3 : Y.K = X.K := by rw [← hX]; rfl
  have hY4 : Y.A = X.A := by rw [← hX]; rfl
  have hY5 : Y.calm = true := by rw [← hX]; exact hc
  have hY6 : Y.env = compEnvC scope cl s3.heap.objs.size X.env := by rw [← hX]; rfl
  have hY7 : ∀ e s', Y.xe e s' → ∃ pins σ H1 s1, Inv Y pins σ H1 s1 ∧ CXx X.prog X.w X.stack H1 s1 E e s' := fun e s' h => by
    rw [← hX] at h ⊢
    refine L2.put_away fun G'2262x36 h'2262x36 => ?_
    obtain ⟨p1, σ1, H1, s1, I1, x1⟩ := h
    refine h'2262x36 ?_
    exact ⟨p1, σ1, H1, s1, I1.wish _, x1⟩
  have gY : PG Y tg g := by rw [← hX]; exact hg _ _ _
  have tY : PTs Y ifs tt := by rw [← hX]; exact ht _ _ _
  have eY : PE Y elt te := by rw [← hX]; exact he _ _ _
  have fY : ∀ {H' : Hp}, (∀ b ∈ fp, H' b = none) → ∀ b ∈ fp, FpOk Y [] H' b := fun {H'} hn b hb => by
    have ok := I4.ok
    refine ⟨hn b hb, (ok.exf b (by rw [← hX]; exact hb)).1, ok.exfs b (by rw [← hX]; exact hb), .inl (by rw [← hX]; exact hb), fun x c e => (ok.exf b (by rw [← hX]; exact hb)).2 x c e, fun p hp => ?_⟩
    have : p ∈ ([] : List (Addr × Obj)) := by rw [← hX] at hp; exact hp
    cases this
  have loop : ∀ s6, s6 = s5 → codeAny (model X.prog X.w) X.A (.compLoop (.ListComp elt [⟨tg, iter, ifs, 0⟩] scope pos) 0 (.ref it) (.ref s2.heap.objs.size) (compEnvC scope cl s3.heap.objs.size X.env)) (RR (.ref s2.heap.objs.size) s3.heap.objs.size) s6 := by
    rintro s6 rfl
    refine compLoop_anyX (fun n s' => ∃ i σ' H', Inv Y [] σ' H' s' ∧ tn i s'.heap ∧ (∀ b ∈ fp, H' b = none) ∧ W i n σ' H') Y.xe ?_ ?_ m0 ⟨0, _, _, I4, st5, fun b hb => (f3 b hb).1.1, w0⟩
    rotate_left
    · intro e s7 hxe
      refine L2.put_away fun G'2262x51 h'2262x51 => ?_
      obtain ⟨p1, σ1, H1, s1, I1, x1⟩ := hY7 e s7 hxe
      refine h'2262x51 ?_
      rw [← hX] at I1
      have J1 := cxComp_end I3 f3 I1.unwish (.refl ..)
      refine L2.put_away fun G'2262x54 h'2262x54 => ?_
      obtain ⟨a, cls, H', rfl, os, bare, un, hok, fl, q⟩ := x1
      refine h'2262x54 ?_
      have IY := I1.call' (ch := []) os un hok bare (fun b z => absurd z (by simp))
      have IX := J1.call' (ch := []) os un hok bare (fun b z => absurd z (by simp))
      refine L2.put_away fun G'2262x57 h'2262x57 => ?_
      obtain ⟨m7, hn7, _⟩ := IY.loc
      refine h'2262x57 ?_
      have fC : H' s3.heap.objs.size = none := IY.free
      refine L2.put_away fun G'2262x59 h'2262x59 => ?_
      obtain ⟨oe, vs, T, oT, ts, a0, he, hce, hd, hv1, hTe, hT, hdT, h3, hsT, hHT⟩ := fl.obj
      refine h'2262x59 ?_
      have F : FlyAt X pins H' s7.heap a cls := ⟨oe, vs, T, oT, ts, a0, he, hce, hd, hv1, hTe, hT, hdT, h3, fun b hb => by
        rcases List.mem_cons.mp hb with rfl | hb
        · exact ⟨J1.ap hx fl.new, fl.free⟩
        · rw [List.mem_singleton.mp hb]; exact ⟨J1.ap hx hsT, hHT⟩⟩
      exact hRE _ _ a cls H' s7 m7 hn7 ⟨I3.ap hx (Heap.get?_none_of_le (Nat.le_refl _)), fC⟩ IX F q _ rfl
    rintro n s7 ⟨i, σ7, H7, I7, st7, fr7, w7⟩
    have pn := hY1; have pw := hY2
    rcases turn i n σ7 H7 w7 with ⟨stop, qn⟩ | ⟨go, N, hN, step⟩
    · have z := T.done Y hY1 hY2 hY3 hY5 i [] s7 σ7 H7 (fun _ _ => False) I7 (fY fr7) st7 stop
      rw [hY4] at z
      refine thn z fun r s8 ⟨hr, I8⟩ => ?_
      subst hr
      refine L2.put_away fun G'2262x72 h'2262x72 => ?_
      obtain ⟨m8, hn8, _⟩ := I8.loc
      refine h'2262x72 ?_
      rw [hY6] at hn8
      have fC : H7 s3.heap.objs.size = none := by have z := I8.free; rw [hY6] at z; exact z
      refine hR _ _ H7 s8 m8 hn8 (I3.fpOk (Nat.le_refl _) fC) (fun h' sb => ?_) qn
      rw [← hX] at I8
      exact cxComp_end I3 f3 I8.unwish sb
    · have z := T.item Y hY1 hY2 hY3 hY5 i [] s7 σ7 H7 (fun _ _ => False) I7 (fY fr7) st7 go
      rw [hY4] at z
      refine thn z fun r s8 ⟨u, hr, h8⟩ => ?_
      subst hr
      refine thn h8 fun _ s9 ⟨x, H9, I9, r9, y9, st9, fr9⟩ => ?_
      have I9' := I9.pinned (fY fr9) (T.obj _ _ st9)
      have z2 := gY _ s9 σ7 H9 x u _ I9' r9 (step x H9 y9)
      rw [hY1, hY2, hY4, hY6] at z2
      refine thn z2 fun _ sA ⟨σA, HA, IA, qA⟩ => ?_
      have z3 := tY _ sA σA HA _ IA qA
      rw [hY1, hY2, hY4, hY6] at z3
      refine thn z3 fun b sB ⟨HB, IB, qB⟩ => ?_
      have again : ∀ {σZ : St} {HZ : Hp} {sZ : Shared}, Inv Y ([] ++ pinsAt fp s9.heap) σZ HZ sZ → N σZ HZ → ∃ m, m < n ∧ ∃ i σ' H', Inv Y [] σ' H' sZ ∧ tn i sZ.heap ∧ (∀ b ∈ fp, H' b = none) ∧ W i m σ' H' := fun {σZ HZ sZ} IZ nZ => by
        refine L2.put_away fun G'2262x91 h'2262x91 => ?_
        obtain ⟨m', hm, wZ⟩ := hN σZ HZ nZ
        refine h'2262x91 ?_
        refine ⟨m', hm, i + 1, σZ, HZ, IZ.unpinned, T.keep _ _ _ st9 fun b hb o e => (IZ.pin (b, o) (List.mem_append_right _ (List.mem_append_right _ (mem_pinsAt hb e)))).1, fun b hb => ?_, wZ⟩
        refine L2.put_away fun G'2262x93 h'2262x93 => ?_
        obtain ⟨o, e, d⟩ := T.obj _ _ st9 b hb
        refine h'2262x93 ?_
        exact (IZ.pin (b, o) (List.mem_append_right _ (List.mem_append_right _ (mem_pinsAt hb e)))).2.1
      cases b with
      | false => exact again IB qB
      | true =>
        have z4 := eY _ sB σA HB _ IB qB
        rw [hY1, hY2, hY4, hY6] at z4
        refine thn z4 fun y sC ⟨vy, HC, IC, rC, ys, hD, hz, nC⟩ => ?_
        have z5 := mt_append (X := Y) _ sC σA HC (.ref s2.heap.objs.size) [vy] (.ref s2.heap.objs.size) [y] (fun _ H' => N σA H') IC rfl (.cons rC .nil) ⟨_, ys, vy, rfl, rfl, hD, hz, nC⟩
        rw [hY1, hY2, hY4] at z5
        exact thn z5 fun _ sD ⟨_, HD, ID, _, nD⟩ => again ID nD
  exact codeAny_compStart_list (loop _ rfl) (T.self _ 0 _ _ _ st5 (loop _ rfl))


theorem pe_compX {X : Cx} {own capt : List Str} {scope : Scope} {cl : List (Str × Addr)} {fr : List Nat} {tg iter elt : Expr} {ifs : List Expr} {wi : TI} {g : TG} {tt : TT} {te : TE} {pos : Pos} {E : XK} (C : CompSc X own capt scope cl fr) (hc : X.calm = true) (hx : X.ex = []) (hst : X.stack = X.env :: X.outer) (hf : X.env.frame = some X.env.locals) (hE : OnX X E)
    (hi : PI X tg iter wi) (hg : ∀ s H fp, PG (cxCompX X (own ++ capt) scope cl s H fp E) tg g) (ht : ∀ s H fp, PTs (cxCompX X (own ++ capt) scope cl s H fp E) ifs tt) (he : ∀ s H fp, PE (cxCompX X (own ++ capt) scope cl s H fp E) elt te)
    (hs : ∀ x, foldedSetIterable iter X.env x = pure x := by intro _; rfl) : PE X (.ListComp elt [⟨tg, iter, ifs, 0⟩] scope pos) (tComp wi g tt te own fr) := by
  intro pins s σ H Q I h
  rw [eval_ListComp]
  refine wpAny_comprehension_free (use := none) rfl hs C.clos C.kind C.names ?_
  exact comp_coreX (RR := fun acc C => compPost (model X.prog X.w) X.A X.xe none (EP X pins σ Q) acc C) C hc hi hg ht he hx hst hf I h (fun D C H' s' m hn _ hI q => ⟨m, hn, fun h' sb => ⟨.ref D, H', hI h' sb, rfl, q⟩⟩)
    fun D C e cls H' s' m hn hC I' fl q cenv hce => comp_out hx hst hf hE hce I' fl hn hC q
end L2
namespace L2
open PySem
noncomputable abbrev IsTrip (h : Heap) (T : Addr) (a b c : Value) : Prop := h.get? T = some { cls := .type "tuple", data := .seq #[a, b, c] }
structure Apart3 (Z Ti To j1 j2 j3 m1 m2 m3 : Addr) : Prop where
  nd : [Z, Ti, To, j1, j2, j3].Nodup
  ls : ∀ m ∈ [m1, m2, m3], m ∉ [Z, To, j1, j2, j3]
noncomputable def Kept3 (Z To j1 j2 j3 : Addr) (h h' : Heap) : Prop := ∀ c o, c ∉ [Z, To, j1, j2, j3] → h.get? c = some o → h'.get? c = some o
theorem Kept3.but {Z To j1 j2 j3 b : Addr} {h h1 h2 : Heap} (k : Kept3 Z To j1 j2 j3 h h1) (hb : b ∈ [Z, To, j1, j2, j3]) (e : Heap.SameBut b h1 h2) : Kept3 Z To j1 j2 j3 h h2 := fun c o hc q => e.extBut _ _ (fun z => hc (by rw [z]; exact hb)) (k c o hc q)
section
variable {prog : Program} {w : World} {A : Around} {E : Value → Shared → Prop} {s : Shared}
theorem trip_set {T : Addr} {a b c x : Value} {k : Nat} {Q : Unit → Shared → Prop} (hT : IsTrip s.heap T a b c)
    (h : ∀ h', h'.get? T = some { cls := .type "tuple", data := .seq ((#[a, b, c] : Array Value).setIfInBounds k x) } → Heap.SameBut T s.heap h' → Q () { s with heap := h' }) :
    wpAny (model prog w) A (updateSeq T (·.setIfInBounds k x)) Q E s :=
  wpAny_updateSeq hT rfl (h _ (by rw [Heap.get?_update_self _ hT rfl]; simp [Obj.mapSeq]) (Heap.SameBut.update ..))
theorem next_trip {Z Ti To j1 j2 j3 m1 m2 m3 : Addr} {n : Nat} {us vs ws : Array Value} {x y v a b c : Value} {Q : Value → Shared → Prop} (D : Apart3 Z Ti To j1 j2 j3 m1 m2 m3)
    (zz : IsZip s.heap Z Ti To .none) (zI : IsTrip s.heap Ti (.ref j1) (.ref j2) (.ref j3)) (zO : IsTrip s.heap To a b c)
    (k1 : s.heap.IsListIter j1 m1 n) (k2 : s.heap.IsListIter j2 m2 n) (k3 : s.heap.IsListIter j3 m3 n) (e1 : s.heap.IsList m1 us) (e2 : s.heap.IsList m2 vs) (e3 : s.heap.IsList m3 ws) (hx : us[n]? = some x) (hy : vs[n]? = some y) (hv : ws[n]? = some v)
    (hQ : ∀ h', IsZip h' Z Ti To (rawInt s.heap.objs.size) → IsTrip h' To x y v → h'.IsListIter j1 m1 (n + 1) → h'.IsListIter j2 m2 (n + 1) → h'.IsListIter j3 m3 (n + 1) → IsTrip h' s.heap.objs.size x y v → Kept3 Z To j1 j2 j3 s.heap h' → Q (.ref s.heap.objs.size) { s with heap := h' }) :
    wpAny (model prog w) A (Builtin.«zip.__next__» ⟨[.ref Z], []⟩) (fun f s' => ∃ r, f = .done (.ret r) ∧ Q r s') E s := by
  obtain ⟨nd, ls⟩ := D
  simp only [List.nodup_cons, List.mem_cons, List.not_mem_nil, or_false, not_or, not_false_eq_true, List.nodup_nil, and_true] at nd
  refine L2.put_away fun G'2276x7 h'2276x7 => ?_
  obtain ⟨⟨d1, d2, d3, d4, d5⟩, ⟨d6, d7, d8, d9⟩, ⟨d10, d11, d12⟩, ⟨d13, d14⟩, d15⟩ := nd
  refine h'2276x7 ?_
  have l1 := ls m1 (by simp)
  have l2 := ls m2 (by simp)
  have l3 := ls m3 (by simp)
  simp only [List.mem_cons, List.not_mem_nil, or_false, not_or] at l1 l2 l3
  show wpAny _ _ (field (.ref Z) 2 >>= _) _ _ _
  refine wpAny_bind (wpAny_field zz rfl (x := .bool false) rfl ?_)
  show wpAny _ _ (field (.ref Z) 3 >>= _) _ _ _
  refine wpAny_bind (wpAny_field zz rfl (x := .ref Ti) rfl (wpAny_bind (wpAny_seqItems zI rfl ?_)))
  show wpAny _ _ (Builtin.SmallTypes.ownedTupleIsFree (.ref Z) >>= _) _ _ _
  refine wpAny_bind (by
    unfold Builtin.SmallTypes.ownedTupleIsFree
    refine wpAny_bind (wpAny_field zz rfl (x := .none) rfl (wpAny_pure ?_))
    simp only [if_true]
    refine wpAny_bind (wpAny_rule (wpAny_bind (wpAny_field zz rfl (x := .ref To) rfl (wpAny_bind (wpAny_setField_rec zz (by simp) fun g1 z1 s1 => ?_)))))
    replace z1 : IsZip g1 Z Ti To .ellipsis := z1
    refine wpAny_bind ?_
    simp only [List.forIn_cons, List.forIn_nil, List.zipIdx_cons, List.zipIdx_nil]
    refine wpAny_bind (wpAny_bind (wpAny_onRaise ?_))
    show wpAny _ _ (Builtin.SmallTypes.nextOf (.ref j1) >>= _) _ _ _
    refine wpAny_bind (wpAny_nextOf_list_item (k1.extBut s1.extBut (Ne.symm d3)) (e1.extBut s1.extBut l1.1) hx fun g2 p1 s2 => wpAny_pure ?_)
    have o2 : IsTrip g2 To a b c := s2.extBut _ _ d10 (s1.extBut _ _ (Ne.symm d2) zO)
    refine wpAny_bind (wpAny_seqItems o2 rfl (wpAny_bind (trip_set o2 fun g3 o3 s3 => ?_)))
    replace o3 : IsTrip g3 To x b c := o3
    refine wpAny_bind (wpAny_letGo (wpAny_pure ?_))
    refine wpAny_bind (wpAny_bind (wpAny_onRaise ?_))
    show wpAny _ _ (Builtin.SmallTypes.nextOf (.ref j2) >>= _) _ _ _
    refine wpAny_bind (wpAny_nextOf_list_item (((k2.extBut s1.extBut (Ne.symm d4)).extBut s2.extBut (Ne.symm d13)).extBut s3.extBut (Ne.symm d11)) (((e2.extBut s1.extBut l2.1).extBut s2.extBut l2.2.2.1).extBut s3.extBut l2.2.1) hy fun g4 p2 s4 => wpAny_pure ?_)
    have o4 : IsTrip g4 To x b c := s4.extBut _ _ d11 o3
    refine wpAny_bind (wpAny_seqItems o4 rfl (wpAny_bind (trip_set o4 fun g5 o5 s5 => ?_)))
    replace o5 : IsTrip g5 To x y c := o5
    refine wpAny_bind (wpAny_letGo (wpAny_pure ?_))
    refine wpAny_bind (wpAny_bind (wpAny_onRaise ?_))
    show wpAny _ _ (Builtin.SmallTypes.nextOf (.ref j3) >>= _) _ _ _
    refine wpAny_bind (wpAny_nextOf_list_item (((((k3.extBut s1.extBut (Ne.symm d5)).extBut s2.extBut (Ne.symm d14)).extBut s3.extBut (Ne.symm d12)).extBut s4.extBut (Ne.symm d15)).extBut s5.extBut (Ne.symm d12)) (((((e3.extBut s1.extBut l3.1).extBut s2.extBut l3.2.2.1).extBut s3.extBut l3.2.1).extBut s4.extBut l3.2.2.2.1).extBut s5.extBut l3.2.1) hv fun g6 p3 s6 => wpAny_pure ?_)
    have o6 : IsTrip g6 To x y c := s6.extBut _ _ d12 o5
    refine wpAny_bind (wpAny_seqItems o6 rfl (wpAny_bind (trip_set o6 fun g7 o7 s7 => ?_)))
    replace o7 : IsTrip g7 To x y v := o7
    refine wpAny_bind (wpAny_letGo (wpAny_pure (wpAny_pure ?_)))
    refine wpAny_bind (wpAny_seqItems o7 rfl (wpAny_bind (wpAny_newTuple ?_)))
    have sz : g7.objs.size = s.heap.objs.size := by rw [s7.1, s6.1, s5.1, s4.1, s3.1, s2.1, s1.1]
    have z7 : IsZip g7 Z Ti To .ellipsis := s7.extBut _ _ d2 (s6.extBut _ _ d5 (s5.extBut _ _ d2 (s4.extBut _ _ d4 (s3.extBut _ _ d2 (s2.extBut _ _ d3 z1)))))
    have K7 : Kept3 Z To j1 j2 j3 s.heap g7 := ((((((Kept3.but (fun c o _ q => q) (by simp) s1).but (by simp) s2).but (by simp) s3).but (by simp) s4).but (by simp) s5).but (by simp) s6).but (by simp) s7
    have q1 : g7.IsListIter j1 m1 (n + 1) := ((((p1.extBut s3.extBut (Ne.symm d10)).extBut s4.extBut d13).extBut s5.extBut (Ne.symm d10)).extBut s6.extBut d14).extBut s7.extBut (Ne.symm d10)
    have q2 : g7.IsListIter j2 m2 (n + 1) := ((p2.extBut s5.extBut (Ne.symm d11)).extBut s6.extBut d15).extBut s7.extBut (Ne.symm d11)
    have q3 : g7.IsListIter j3 m3 (n + 1) := p3.extBut s7.extBut (Ne.symm d12)
    have zlt : Z < g7.objs.size := Heap.lt_size z7
    show wpAny _ _ (Builtin.SmallTypes.ownedTupleHandOut (.ref Z) (.ref g7.objs.size) >>= _) _ _ _
    refine wpAny_bind (by
      unfold Builtin.SmallTypes.ownedTupleHandOut
      have z8 : IsZip (g7.push { cls := .type "tuple", data := .seq #[x, y, v] }) Z Ti To .ellipsis := Heap.get?_push_of_some _ z7
      refine wpAny_bind (wpAny_setField_rec z8 (by simp) fun g9 z9 s9 => ?_)
      replace z9 : IsZip g9 Z Ti To (rawInt g7.objs.size) := z9
      refine wpAny_setField_rec z9 (by simp) fun gA zA sA => ?_
      replace zA : IsZip gA Z Ti To (rawInt g7.objs.size) := zA
      have up : ∀ c o, c ≠ Z → g7.get? c = some o → gA.get? c = some o := fun c o hc q => sA.extBut _ _ hc (s9.extBut _ _ hc (Heap.get?_push_of_some _ q))
      have tA : IsTrip gA g7.objs.size x y v := sA.extBut _ _ (Nat.ne_of_gt zlt) (s9.extBut _ _ (Nat.ne_of_gt zlt) (Heap.get?_push_size _ rfl))
      rw [sz] at zA tA
      refine wpAny_pure ⟨_, rfl, ?_⟩
      show Q (.ref g7.objs.size) _
      rw [sz]
      exact hQ gA zA (up _ _ (Ne.symm d2) o7) (q1.at fun o q => up _ o (Ne.symm d3) q) (q2.at fun o q => up _ o (Ne.symm d4) q) (q3.at fun o q => up _ o (Ne.symm d5) q) tA fun c o hc q => up c o (fun z => hc (by rw [z]; simp)) (K7 c o hc q)))
theorem end_trip {Z Ti To j1 j2 j3 m1 m2 m3 : Addr} {n : Nat} {us vs ws : Array Value} {a b c : Value} {Q : Fin → Shared → Prop} (hh : A.handled = none) (D : Apart3 Z Ti To j1 j2 j3 m1 m2 m3)
    (zz : IsZip s.heap Z Ti To .none) (zI : IsTrip s.heap Ti (.ref j1) (.ref j2) (.ref j3)) (zO : IsTrip s.heap To a b c)
    (k1 : s.heap.IsListIter j1 m1 n) (k2 : s.heap.IsListIter j2 m2 n) (k3 : s.heap.IsListIter j3 m3 n) (e1 : s.heap.IsList m1 us) (e2 : s.heap.IsList m2 vs) (e3 : s.heap.IsList m3 ws) (hend : us[n]? = none ∨ vs[n]? = none ∨ ws[n]? = none)
    (hE : ∀ h' e, Kept3 Z To j1 j2 j3 s.heap h' → (∃ o, h'.get? e = some o ∧ o.cls = .type "StopIteration") → E (.ref e) { s with heap := h' }) :
    wpAny (model prog w) A (Builtin.«zip.__next__» ⟨[.ref Z], []⟩) Q E s := by
  obtain ⟨nd, ls⟩ := D
  simp only [List.nodup_cons, List.mem_cons, List.not_mem_nil, or_false, not_or, not_false_eq_true, List.nodup_nil, and_true] at nd
  refine L2.put_away fun G'2277x7 h'2277x7 => ?_
  obtain ⟨⟨d1, d2, d3, d4, d5⟩, ⟨d6, d7, d8, d9⟩, ⟨d10, d11, d12⟩, ⟨d13, d14⟩, d15⟩ := nd
  refine h'2277x7 ?_
  have l1 := ls m1 (by simp)
  have l2 := ls m2 (by simp)
  have l3 := ls m3 (by simp)
  simp only [List.mem_cons, List.not_mem_nil, or_false, not_or] at l1 l2 l3
  have fin : ∀ {g : Heap} {e : Addr}, IsZip g Z Ti To .ellipsis → Kept3 Z To j1 j2 j3 s.heap g → (∃ o, g.get? e = some o ∧ o.cls = .type "StopIteration") → wpAny (model prog w) A (setField (.ref Z) 0 .none) (fun _ s' => E (.ref e) s') E { s with heap := g } := fun {g e} z K he => by
    refine L2.put_away fun G'2277x13 h'2277x13 => ?_
    obtain ⟨o, ho, hc⟩ := he
    refine h'2277x13 ?_
    have ez : e ≠ Z := fun q => by rw [q, z] at ho; cases ho; simp at hc
    exact wpAny_setField_rec z (by simp) fun g' _ s' => hE g' e (K.but (by simp) s') ⟨o, s'.extBut _ _ ez ho, hc⟩
  show wpAny _ _ (field (.ref Z) 2 >>= _) _ _ _
  refine wpAny_bind (wpAny_field zz rfl (x := .bool false) rfl ?_)
  show wpAny _ _ (field (.ref Z) 3 >>= _) _ _ _
  refine wpAny_bind (wpAny_field zz rfl (x := .ref Ti) rfl (wpAny_bind (wpAny_seqItems zI rfl ?_)))
  show wpAny _ _ (Builtin.SmallTypes.ownedTupleIsFree (.ref Z) >>= _) _ _ _
  refine wpAny_bind (by
    unfold Builtin.SmallTypes.ownedTupleIsFree
    refine wpAny_bind (wpAny_field zz rfl (x := .none) rfl (wpAny_pure ?_))
    simp only [if_true]
    refine wpAny_bind (wpAny_rule (wpAny_bind (wpAny_field zz rfl (x := .ref To) rfl (wpAny_bind (wpAny_setField_rec zz (by simp) fun g1 z1 s1 => ?_)))))
    replace z1 : IsZip g1 Z Ti To .ellipsis := z1
    have K1 : Kept3 Z To j1 j2 j3 s.heap g1 := Kept3.but (fun c o _ q => q) (by simp) s1
    refine wpAny_bind ?_
    simp only [List.forIn_cons, List.forIn_nil, List.zipIdx_cons, List.zipIdx_nil]
    cases hx : us[n]? with
    | none =>
      refine wpAny_bind (wpAny_bind (wpAny_onRaise ?_))
      show wpAny _ _ (Builtin.SmallTypes.nextOf (.ref j1) >>= _) _ _ _
      refine wpAny_bind (wpAny_nextOf_list_end hh (k1.extBut s1.extBut (Ne.symm d3)) (e1.extBut s1.extBut l1.1) hx fun g2 e s2 he => ?_)
      exact fin (s2 _ _ d3 z1) (fun c o hc q => s2 _ _ (fun z => hc (by rw [z]; simp)) (K1 c o hc q)) he
    | some x =>
      refine wpAny_bind (wpAny_bind (wpAny_onRaise ?_))
      show wpAny _ _ (Builtin.SmallTypes.nextOf (.ref j1) >>= _) _ _ _
      refine wpAny_bind (wpAny_nextOf_list_item (k1.extBut s1.extBut (Ne.symm d3)) (e1.extBut s1.extBut l1.1) hx fun g2 p1 s2 => wpAny_pure ?_)
      have o2 : IsTrip g2 To a b c := s2.extBut _ _ d10 (s1.extBut _ _ (Ne.symm d2) zO)
      refine wpAny_bind (wpAny_seqItems o2 rfl (wpAny_bind (trip_set o2 fun g3 o3 s3 => ?_)))
      replace o3 : IsTrip g3 To x b c := o3
      refine wpAny_bind (wpAny_letGo (wpAny_pure ?_))
      have z3 : IsZip g3 Z Ti To .ellipsis := s3.extBut _ _ d2 (s2.extBut _ _ d3 z1)
      have K3 := (K1.but (by simp) s2).but (by simp) s3
      cases hy : vs[n]? with
      | none =>
        refine wpAny_bind (wpAny_bind (wpAny_onRaise ?_))
        show wpAny _ _ (Builtin.SmallTypes.nextOf (.ref j2) >>= _) _ _ _
        refine wpAny_bind (wpAny_nextOf_list_end hh (((k2.extBut s1.extBut (Ne.symm d4)).extBut s2.extBut (Ne.symm d13)).extBut s3.extBut (Ne.symm d11)) (((e2.extBut s1.extBut l2.1).extBut s2.extBut l2.2.2.1).extBut s3.extBut l2.2.1) hy fun g4 e s4 he => ?_)
        exact fin (s4 _ _ d4 z3) (fun c o hc q => s4 _ _ (fun z => hc (by rw [z]; simp)) (K3 c o hc q)) he
      | some y =>
        refine wpAny_bind (wpAny_bind (wpAny_onRaise ?_))
        show wpAny _ _ (Builtin.SmallTypes.nextOf (.ref j2) >>= _) _ _ _
        refine wpAny_bind (wpAny_nextOf_list_item (((k2.extBut s1.extBut (Ne.symm d4)).extBut s2.extBut (Ne.symm d13)).extBut s3.extBut (Ne.symm d11)) (((e2.extBut s1.extBut l2.1).extBut s2.extBut l2.2.2.1).extBut s3.extBut l2.2.1) hy fun g4 p2 s4 => wpAny_pure ?_)
        have o4 : IsTrip g4 To x b c := s4.extBut _ _ d11 o3
        refine wpAny_bind (wpAny_seqItems o4 rfl (wpAny_bind (trip_set o4 fun g5 o5 s5 => ?_)))
        replace o5 : IsTrip g5 To x y c := o5
        refine wpAny_bind (wpAny_letGo (wpAny_pure ?_))
        have z5 : IsZip g5 Z Ti To .ellipsis := s5.extBut _ _ d2 (s4.extBut _ _ d4 z3)
        have K5 := (K3.but (by simp) s4).but (by simp) s5
        have hv : ws[n]? = none := by
          rcases hend with q | q | q
          · rw [hx] at q; cases q
          · rw [hy] at q; cases q
          · exact q
        refine wpAny_bind (wpAny_bind (wpAny_onRaise ?_))
        show wpAny _ _ (Builtin.SmallTypes.nextOf (.ref j3) >>= _) _ _ _
        refine wpAny_bind (wpAny_nextOf_list_end hh (((((k3.extBut s1.extBut (Ne.symm d5)).extBut s2.extBut (Ne.symm d14)).extBut s3.extBut (Ne.symm d12)).extBut s4.extBut (Ne.symm d15)).extBut s5.extBut (Ne.symm d12)) (((((e3.extBut s1.extBut l3.1).extBut s2.extBut l3.2.2.1).extBut s3.extBut l3.2.1).extBut s4.extBut l3.2.2.2.1).extBut s5.extBut l3.2.1) hv fun g6 e s6 he => ?_)
        exact fin (s6 _ _ d5 z5) (fun c o hc q => s6 _ _ (fun z => hc (by rw [z]; simp)) (K5 c o hc q)) he)
theorem pyNext_trip {Z Ti To j1 j2 j3 m1 m2 m3 : Addr} {n : Nat} {us vs ws : Array Value} {x y v a b c : Value} {Q : Option Value → Shared → Prop} (D : Apart3 Z Ti To j1 j2 j3 m1 m2 m3)
    (zz : IsZip s.heap Z Ti To .none) (zI : IsTrip s.heap Ti (.ref j1) (.ref j2) (.ref j3)) (zO : IsTrip s.heap To a b c)
    (k1 : s.heap.IsListIter j1 m1 n) (k2 : s.heap.IsListIter j2 m2 n) (k3 : s.heap.IsListIter j3 m3 n) (e1 : s.heap.IsList m1 us) (e2 : s.heap.IsList m2 vs) (e3 : s.heap.IsList m3 ws) (hx : us[n]? = some x) (hy : vs[n]? = some y) (hv : ws[n]? = some v)
    (hQ : ∀ h', IsZip h' Z Ti To (rawInt s.heap.objs.size) → IsTrip h' To x y v → h'.IsListIter j1 m1 (n + 1) → h'.IsListIter j2 m2 (n + 1) → h'.IsListIter j3 m3 (n + 1) → IsTrip h' s.heap.objs.size x y v → Kept3 Z To j1 j2 j3 s.heap h' → Q (some (.ref s.heap.objs.size)) { s with heap := h' }) :
    wpAny (model prog w) A (pyNext (.ref Z)) Q E s := by
  have ty : s.TypeIs (.ref Z) "zip" := ⟨_, zz, rfl⟩
  unfold pyNext
  refine wpAny_bind (wpAny_attempt (wpAny_callSpecial?_slot (name := Str.ofString "__next__") ty F.slot_zip_next (wpAny_call_entry F.slot_zip_next ty F.entry_zip_next ?_ (F.args_zip_next_1 _))))
  exact next_trip D zz zI zO k1 k2 k3 e1 e2 e3 hx hy hv fun h' a1 a2 a3 a4 a5 a6 a7 => wpAny_pure (hQ h' a1 a2 a3 a4 a5 a6 a7)
theorem pyNext_trip_end {Z Ti To j1 j2 j3 m1 m2 m3 : Addr} {n : Nat} {us vs ws : Array Value} {a b c : Value} {Q : Option Value → Shared → Prop} (hh : A.handled = none) (D : Apart3 Z Ti To j1 j2 j3 m1 m2 m3)
    (zz : IsZip s.heap Z Ti To .none) (zI : IsTrip s.heap Ti (.ref j1) (.ref j2) (.ref j3)) (zO : IsTrip s.heap To a b c)
    (k1 : s.heap.IsListIter j1 m1 n) (k2 : s.heap.IsListIter j2 m2 n) (k3 : s.heap.IsListIter j3 m3 n) (e1 : s.heap.IsList m1 us) (e2 : s.heap.IsList m2 vs) (e3 : s.heap.IsList m3 ws) (hend : us[n]? = none ∨ vs[n]? = none ∨ ws[n]? = none)
    (hQ : ∀ h', Kept3 Z To j1 j2 j3 s.heap h' → Q none { s with heap := h' }) : wpAny (model prog w) A (pyNext (.ref Z)) Q E s := by
  have ty : s.TypeIs (.ref Z) "zip" := ⟨_, zz, rfl⟩
  unfold pyNext
  refine wpAny_bind (wpAny_attempt (wpAny_callSpecial?_slot (name := Str.ofString "__next__") ty F.slot_zip_next (wpAny_call_entry F.slot_zip_next ty F.entry_zip_next ?_ (F.args_zip_next_1 _))))
  refine end_trip hh D zz zI zO k1 k2 k3 e1 e2 e3 hend fun h' e K ⟨o, ho, hc⟩ => ?_
  exact wpAny_bind (wpAny_isInstance (T := "StopIteration") (b := true) ⟨o, ho, hc⟩ isSubtype_stop (wpAny_pure (hQ _ K)))
end
theorem tcall3 (a b c : Value) : checkTypeCall "zip" ⟨[a, b, c], []⟩ = pure () := by kernel_rfl
theorem ncall3 (a b c : Value) : checkBuiltinCall "zip.__new__" ⟨[.type "zip", a, b, c], []⟩ = pure () := by kernel_rfl
theorem ninit3 (a b c d : Value) : argsOk "object.__init__" ⟨[a, b, c, d], []⟩ := by
  unfold argsOk
  rw [signature?_of (id := "object.__init__") (n := ['_', '_', 't', 'i', 'n', 'i', '_', '_']) (o := ['t', 'c', 'e', 'j', 'b', 'o']) (by kernel_rfl) F.owner_object]
  kernel_rfl
noncomputable abbrev itObj (m : Addr) : Obj := { cls := .type "list_iterator", data := .fields #[.ref m, .int 0 0] }
noncomputable abbrev zipAll (h : Heap) (m1 m2 m3 : Addr) : Heap := (((((h.push (itObj m1)).push (itObj m2)).push (itObj m3)).push { cls := .type "tuple", data := .seq #[.ref h.objs.size, .ref (h.push (itObj m1)).objs.size, .ref ((h.push (itObj m1)).push (itObj m2)).objs.size] }).push { cls := .type "tuple", data := .seq #[.none, .none, .none] }).push
  { cls := .type "zip", data := .fields #[.none, .bool false, .bool false, .ref (((h.push (itObj m1)).push (itObj m2)).push (itObj m3)).objs.size, .ref ((((h.push (itObj m1)).push (itObj m2)).push (itObj m3)).push { cls := .type "tuple", data := .seq #[.ref h.objs.size, .ref (h.push (itObj m1)).objs.size, .ref ((h.push (itObj m1)).push (itObj m2)).objs.size] }).objs.size] }
theorem meets_new3 (m1 m2 m3 : Addr) (us vs ws : Array Value) :
    Meets (Builtin.«zip.__new__» ⟨[.type "zip", .ref m1, .ref m2, .ref m3], []⟩) (fun _ R s => s.heap.IsList m1 us ∧ s.heap.IsList m2 vs ∧ s.heap.IsList m3 ws ∧
      R (.ok (.ret (.ref (s.heap.objs.size + 5)))) { s with heap := zipAll s.heap m1 m2 m3 }) :=
  .of_wp fun prog w A R s h => by
    refine L2.put_away fun G'2286x4 h'2286x4 => ?_
    obtain ⟨hp, g, d, tk, os⟩ := s
    refine h'2286x4 ?_
    refine L2.put_away fun G'2286x5 h'2286x5 => ?_
    obtain ⟨e1, e2, e3, h⟩ := h
    refine h'2286x5 ?_
    have sz := sub_zip
    have L1 : Heap.IsList (Shared.heap ⟨hp, g, d, tk, os⟩) m1 us := e1
    have L2 : Heap.IsList (Shared.heap ⟨hp.push (itObj m1), g, d, tk, os⟩) m2 vs := Heap.IsList.push e2 _
    have L3 : Heap.IsList (Shared.heap ⟨(hp.push (itObj m1)).push (itObj m2), g, d, tk, os⟩) m3 ws := Heap.IsList.push (Heap.IsList.push e3 _) _
    wp_walk using wpAny_pyIter_list L1, wpAny_pyIter_list L2, wpAny_pyIter_list L3
    refine ⟨_, rfl, ?_⟩
    have e5 : hp.objs.size + 5 = (((((hp.push (itObj m1)).push (itObj m2)).push (itObj m3)).push { cls := .type "tuple", data := .seq #[.ref hp.objs.size, .ref (hp.push (itObj m1)).objs.size, .ref ((hp.push (itObj m1)).push (itObj m2)).objs.size] }).push { cls := .type "tuple", data := .seq #[.none, .none, .none] }).objs.size := by simp only [Heap.size_push]
    rw [e5] at h
    exact h
section
variable {prog : Program} {w : World} {A : Around} {E : Value → Shared → Prop} {s : Shared}
theorem call_zip3 {m1 m2 m3 : Addr} {us vs ws : Array Value} {Q : Value → Shared → Prop} (e1 : s.heap.IsList m1 us) (e2 : s.heap.IsList m2 vs) (e3 : s.heap.IsList m3 ws)
    (h : ∀ h', IsZip h' (s.heap.objs.size + 5) (s.heap.objs.size + 3) (s.heap.objs.size + 4) .none → IsTrip h' (s.heap.objs.size + 3) (.ref s.heap.objs.size) (.ref (s.heap.objs.size + 1)) (.ref (s.heap.objs.size + 2)) →
      IsTrip h' (s.heap.objs.size + 4) .none .none .none → h'.IsListIter s.heap.objs.size m1 0 → h'.IsListIter (s.heap.objs.size + 1) m2 0 → h'.IsListIter (s.heap.objs.size + 2) m3 0 →
      (∀ c o, s.heap.get? c = some o → h'.get? c = some o) → Q (.ref (s.heap.objs.size + 5)) { s with heap := h' }) :
    wpAny (model prog w) A (call (.type "zip") [.ref m1, .ref m2, .ref m3]) Q E s := by
  refine callType_new F.called_zip (by decide) (tcall3 _ _ _) (ncall3 _ _ _) (fun obj => ninit3 obj _ _ _) F.entry_zip_new (meets_new3 m1 m2 m3 us vs ws) ⟨e1, e2, e3, ?_⟩
  have pk : ∀ {h : Heap} {c : Addr} {o : Obj} (u : Obj), h.get? c = some o → (h.push u).get? c = some o := fun u q => Heap.get?_push_of_some _ q
  have p1 : (zipAll s.heap m1 m2 m3).get? s.heap.objs.size = some (itObj m1) := pk _ (pk _ (pk _ (pk _ (pk _ (Heap.get?_push_size _ rfl)))))
  have p2 : (zipAll s.heap m1 m2 m3).get? (s.heap.push (itObj m1)).objs.size = some (itObj m2) := pk _ (pk _ (pk _ (pk _ (Heap.get?_push_size _ rfl))))
  have p3 : (zipAll s.heap m1 m2 m3).get? ((s.heap.push (itObj m1)).push (itObj m2)).objs.size = some (itObj m3) := pk _ (pk _ (pk _ (Heap.get?_push_size _ rfl)))
  have p4 : (zipAll s.heap m1 m2 m3).get? (((s.heap.push (itObj m1)).push (itObj m2)).push (itObj m3)).objs.size = some _ := pk _ (pk _ (Heap.get?_push_size _ rfl))
  have p5 : (zipAll s.heap m1 m2 m3).get? ((((s.heap.push (itObj m1)).push (itObj m2)).push (itObj m3)).push { cls := .type "tuple", data := .seq #[.ref s.heap.objs.size, .ref (s.heap.push (itObj m1)).objs.size, .ref ((s.heap.push (itObj m1)).push (itObj m2)).objs.size] }).objs.size = some _ := pk _ (Heap.get?_push_size _ rfl)
  have p6 : (zipAll s.heap m1 m2 m3).get? (((((s.heap.push (itObj m1)).push (itObj m2)).push (itObj m3)).push { cls := .type "tuple", data := .seq #[.ref s.heap.objs.size, .ref (s.heap.push (itObj m1)).objs.size, .ref ((s.heap.push (itObj m1)).push (itObj m2)).objs.size] }).push { cls := .type "tuple", data := .seq #[.none, .none, .none] }).objs.size = some _ := Heap.get?_push_size _ rfl
  have kp : ∀ c o, s.heap.get? c = some o → (zipAll s.heap m1 m2 m3).get? c = some o := fun c o q => pk _ (pk _ (pk _ (pk _ (pk _ (pk _ q)))))
  generalize zipAll s.heap m1 m2 m3 = h' at kp p1 p2 p3 p4 p5 p6 ⊢
  simp only [Heap.size_push, Nat.add_assoc, Nat.reduceAdd] at p2 p3 p4 p5 p6
  show _ ∧ _
  exact ⟨⟨_, p6, rfl⟩, h _ p6 p4 p5 ⟨_, p1, rfl, rfl⟩ ⟨_, p2, rfl, rfl⟩ ⟨_, p3, rfl, rfl⟩ kp⟩
end
end L2
namespace L2
open PySem PySem.Spec PyProof.Rows
noncomputable def Itp3 (n : Nat) (ok : Hp → Prop) (f : Nat → Hp → V → V → V → Prop) : It :=
  ⟨fun i H => i < n ∧ ok H, fun i H x H' => ∃ T u v t, H T = none ∧ x = .ref T ∧ H' = upd H T (.tup [u, v, t]) ∧ f i H u v t, fun i H => i = n ∧ ok H⟩
noncomputable def okZ3 (K : PySem.W.Frag) (a b c : Addr) (n : Nat) (H : Hp) : Prop := ∃ xs ys zs, SqL K H a xs ∧ SqL K H b ys ∧ SqL K H c zs ∧ min (min xs.length ys.length) zs.length = n
noncomputable def Itz3 (K : PySem.W.Frag) (a b c : Addr) (n : Nat) : It := Itp3 n (okZ3 K a b c n) fun i H u v t => (∀ xs, SqL K H a xs → xs[i]? = some u) ∧ (∀ ys, SqL K H b ys → ys[i]? = some v) ∧ ∀ zs, SqL K H c zs → zs[i]? = some t
noncomputable def tnZ3 (Z Ti To j1 j2 j3 m1 m2 m3 : Addr) (i : Nat) (h : Heap) : Prop := IsZip h Z Ti To .none ∧ IsTrip h Ti (.ref j1) (.ref j2) (.ref j3) ∧ (∃ a b c, IsTrip h To a b c) ∧ h.IsListIter j1 m1 i ∧ h.IsListIter j2 m2 i ∧ h.IsListIter j3 m3 i
theorem turn_zip3 {P : Program} {w : World} {K : PySem.W.Frag} {es : List Expr} {k : Nat} {pos : Pos} {Z Ti To j1 j2 j3 m1 m2 m3 : Addr} {n : Nat} (D : Apart3 Z Ti To j1 j2 j3 m1 m2 m3) :
    Turn P w K (.Tuple es k pos) (Itz3 K m1 m2 m3 n) [Z, Ti, To, j1, j2, j3] Z (tnZ3 Z Ti To j1 j2 j3 m1 m2 m3) where
  mem := by simp
  obj := fun i h st b hb => by
    refine L2.put_away fun G'2299x4 h'2299x4 => ?_
    obtain ⟨h1, h2, ⟨x, y, z, h3⟩, ⟨o4, h4, _, d4⟩, ⟨o5, h5, _, d5⟩, ⟨o6, h6, _, d6⟩⟩ := st
    refine h'2299x4 ?_
    simp only [List.mem_cons, List.not_mem_nil, or_false] at hb
    rcases hb with rfl | rfl | rfl | rfl | rfl | rfl
    · exact ⟨_, h1, fun v q => nomatch q⟩
    · exact ⟨_, h2, fun v q => nomatch q⟩
    · exact ⟨_, h3, fun v q => nomatch q⟩
    · exact ⟨_, h4, fun v q => by rw [d4] at q; cases q⟩
    · exact ⟨_, h5, fun v q => by rw [d5] at q; cases q⟩
    · exact ⟨_, h6, fun v q => by rw [d6] at q; cases q⟩
  keep := fun i h h' st kk => by
    refine L2.put_away fun G'2299x14 h'2299x14 => ?_
    obtain ⟨h1, h2, ⟨x, y, z, h3⟩, h4, h5, h6⟩ := st
    refine h'2299x14 ?_
    exact ⟨kk _ (by simp) _ h1, kk _ (by simp) _ h2, ⟨x, y, z, kk _ (by simp) _ h3⟩, h4.at fun o e => kk _ (by simp) o e, h5.at fun o e => kk _ (by simp) o e, h6.at fun o e => kk _ (by simp) o e⟩
  item := by
    intro X hP hw hK hc i pins s σ H E I hf st hg
    subst hP hw hK
    refine L2.put_away fun G'2299x19 h'2299x19 => ?_
    obtain ⟨hi, xs, ys, zs, ha, hb, hcc, hn⟩ := hg
    refine h'2299x19 ?_
    refine L2.put_away fun G'2299x20 h'2299x20 => ?_
    obtain ⟨us, ru, pu, _⟩ := I.list ha
    refine h'2299x20 ?_
    refine L2.put_away fun G'2299x21 h'2299x21 => ?_
    obtain ⟨vs, rv, pv, _⟩ := I.list hb
    refine h'2299x21 ?_
    refine L2.put_away fun G'2299x22 h'2299x22 => ?_
    obtain ⟨ts, rt, pt, _⟩ := I.list hcc
    refine h'2299x22 ?_
    have lu := ru.length
    have lv := rv.length
    have lt := rt.length
    refine L2.put_away fun G'2299x26 h'2299x26 => ?_
    obtain ⟨h1, h2, ⟨a, b, c, h3⟩, h4, h5, h6⟩ := st
    refine h'2299x26 ?_
    have gx : xs[i]? = some (xs[i]'(by (clear h'2299x19 h'2299x20 h'2299x21 h'2299x22 h'2299x26 lt lv lu; omega))) := List.getElem?_eq_getElem (by (clear h'2299x19 h'2299x20 h'2299x21 h'2299x22 h'2299x26 lt lv lu; omega))
    have gy : ys[i]? = some (ys[i]'(by (clear h'2299x19 h'2299x20 h'2299x21 h'2299x22 h'2299x26 gx; omega))) := List.getElem?_eq_getElem (by (clear h'2299x19 h'2299x20 h'2299x21 h'2299x22 h'2299x26 gx; omega))
    have gz : zs[i]? = some (zs[i]'(by (clear h'2299x19 h'2299x20 h'2299x21 h'2299x22 h'2299x26 gx gy; omega))) := List.getElem?_eq_getElem (by (clear h'2299x19 h'2299x20 h'2299x21 h'2299x22 h'2299x26 gx gy; omega))
    refine L2.put_away fun G'2299x30 h'2299x30 => ?_
    obtain ⟨x, q1, rx⟩ := ru.get gx
    refine h'2299x30 ?_
    refine L2.put_away fun G'2299x31 h'2299x31 => ?_
    obtain ⟨y, q2, ry⟩ := rv.get gy
    refine h'2299x31 ?_
    refine L2.put_away fun G'2299x32 h'2299x32 => ?_
    obtain ⟨z, q3, rz⟩ := rt.get gz
    refine h'2299x32 ?_
    have nn := D.nd
    simp only [List.nodup_cons, List.mem_cons, List.not_mem_nil, or_false, not_or, not_false_eq_true, List.nodup_nil, and_true] at nn
    refine pyNext_trip D h1 h2 h3 h4 h5 h6 pu.isList pv.isList pt.isList (x := x) (y := y) (v := z) (by simpa using q1) (by simpa using q2) (by simpa using q3) fun h' a1 a2 a3 a4 a5 a6 kk => ?_
    refine ⟨.ref s.heap.objs.size, rfl, wpAny_letOwnedTupleGo_zip a1 fun h2' zz2 sb => ?_⟩
    have zlt : Z < s.heap.objs.size := Heap.lt_size h1
    have nT : H s.heap.objs.size = none := I.hok.fresh (Nat.le_refl _)
    have K2 : Kept3 Z To j1 j2 j3 s.heap h2' := kk.but (by simp) sb
    have tup2 : IsTup h2' s.heap.objs.size #[x, y, z] := ⟨_, sb.extBut _ _ (Nat.ne_of_gt zlt) a6, rfl, _, rfl⟩
    have fpw : ∀ b ∈ [Z, To, j1, j2, j3], b ∈ [Z, Ti, To, j1, j2, j3] := fun b hb => by
      simp only [List.mem_cons, List.not_mem_nil, or_false] at hb ⊢
      rcases hb with rfl | rfl | rfl | rfl | rfl <;> simp
    have I2 : Inv X pins σ (upd H s.heap.objs.size (.tup [xs[i]'(by (clear h'2299x19 h'2299x20 h'2299x21 h'2299x22 h'2299x26 gx gy gz h'2299x30 q1 h'2299x31 q2 h'2299x32 q3; omega)), ys[i]'(by (clear h'2299x19 h'2299x20 h'2299x21 h'2299x22 h'2299x26 gx gy gz h'2299x30 q1 h'2299x31 q2 h'2299x32 q3; omega)), zs[i]'(by (clear h'2299x19 h'2299x20 h'2299x21 h'2299x22 h'2299x26 gx gy gz h'2299x30 q1 h'2299x31 q2 h'2299x32 q3; omega))])) { s with heap := h2', toks := s.toks } :=
      I.turnedLaid (fun b u hb e => K2 b u hb e) (fun b hb => hf b (fpw b hb)) (Nat.le_refl _) ⟨show 3 ≤ sizeLine by decide, [x, y, z], .cons rx (.cons ry (.cons rz .nil)), tup2⟩
    refine ⟨.ref s.heap.objs.size, _, I2, rfl, ⟨s.heap.objs.size, _, _, _, nT, rfl, rfl, fun ws hz => by rw [I.list_inj hz ha]; exact gx, fun ws hz => by rw [I.list_inj hz hb]; exact gy, fun ws hz => by rw [I.list_inj hz hcc]; exact gz⟩, ?_, fun b hb => ?_⟩
    · refine ⟨zz2, K2 _ _ ?_ h2, ⟨x, y, z, sb.extBut _ _ (Ne.symm nn.1.2.1) a2⟩, a3.extBut sb.extBut (Ne.symm nn.1.2.2.1), a4.extBut sb.extBut (Ne.symm nn.1.2.2.2.1), a5.extBut sb.extBut (Ne.symm nn.1.2.2.2.2)⟩
      simp only [List.mem_cons, List.not_mem_nil, or_false, not_or]
      exact ⟨Ne.symm nn.1.1, nn.2.1.1, nn.2.1.2.1, nn.2.1.2.2.1, nn.2.1.2.2.2⟩
    · have lt : b < s.heap.objs.size := by
        refine L2.put_away fun G'2299x51 h'2299x51 => ?_
        obtain ⟨o4, h4, _⟩ := h4
        refine h'2299x51 ?_
        refine L2.put_away fun G'2299x52 h'2299x52 => ?_
        obtain ⟨o5, h5, _⟩ := h5
        refine h'2299x52 ?_
        refine L2.put_away fun G'2299x53 h'2299x53 => ?_
        obtain ⟨o6, h6, _⟩ := h6
        refine h'2299x53 ?_
        simp only [List.mem_cons, List.not_mem_nil, or_false] at hb
        rcases hb with rfl | rfl | rfl | rfl | rfl | rfl
        · exact Heap.lt_size h1
        · exact Heap.lt_size h2
        · exact Heap.lt_size h3
        · exact Heap.lt_size h4
        · exact Heap.lt_size h5
        · exact Heap.lt_size h6
      rw [upd_ne (Nat.ne_of_lt lt)]
      exact (hf b hb).1
  done := by
    intro X hP hw hK hc i pins s σ H E I hf st hg
    subst hP hw hK
    refine L2.put_away fun G'2299x67 h'2299x67 => ?_
    obtain ⟨hi, xs, ys, zs, ha, hb, hcc, hn⟩ := hg
    refine h'2299x67 ?_
    refine L2.put_away fun G'2299x68 h'2299x68 => ?_
    obtain ⟨us, ru, pu, _⟩ := I.list ha
    refine h'2299x68 ?_
    refine L2.put_away fun G'2299x69 h'2299x69 => ?_
    obtain ⟨vs, rv, pv, _⟩ := I.list hb
    refine h'2299x69 ?_
    refine L2.put_away fun G'2299x70 h'2299x70 => ?_
    obtain ⟨ts, rt, pt, _⟩ := I.list hcc
    refine h'2299x70 ?_
    have lu := ru.length
    have lv := rv.length
    have lt := rt.length
    refine L2.put_away fun G'2299x74 h'2299x74 => ?_
    obtain ⟨h1, h2, ⟨a, b, c, h3⟩, h4, h5, h6⟩ := st
    refine h'2299x74 ?_
    have fpw : ∀ b ∈ [Z, To, j1, j2, j3], b ∈ [Z, Ti, To, j1, j2, j3] := fun b hb => by
      simp only [List.mem_cons, List.not_mem_nil, or_false] at hb ⊢
      rcases hb with rfl | rfl | rfl | rfl | rfl <;> simp
    have hend : us.toArray[i]? = none ∨ vs.toArray[i]? = none ∨ ts.toArray[i]? = none := by
      by_cases c1 : us.length ≤ i
      · exact .inl (by simpa using c1)
      by_cases c2 : vs.length ≤ i
      · exact .inr (.inl (by simpa using c2))
      · exact .inr (.inr (by
          have : ts.length ≤ i := by omega
          simpa using this))
    exact pyNext_trip_end (I.ok.hd hc) D h1 h2 h3 h4 h5 h6 pu.isList pv.isList pt.isList hend fun h' kk => ⟨rfl, I.turnedL (t' := s.toks) (fun b u hb e => kk b u hb e) fun b hb => hf b (fpw b hb)⟩
  self := fun A i s Q E st h => wpAny_pyIter_zip st.1 h
noncomputable def iZip3 (K : PySem.W.Frag) (ta tb tc : TE) : TI := fun σ H R => ta σ H fun x H1 => tb σ H1 fun y H2 => tc σ H2 fun z H3 => ∃ a b c xs ys zs, x = .ref a ∧ y = .ref b ∧ z = .ref c ∧ SqL K H3 a xs ∧ SqL K H3 b ys ∧ SqL K H3 c zs ∧ R (Itz3 K a b c (min (min xs.length ys.length) zs.length)) H3
theorem apart3 {I m1 m2 m3 : Nat} (h1 : m1 < I) (h2 : m2 < I) (h3 : m3 < I) : Apart3 (I + 5) (I + 3) (I + 4) I (I + 1) (I + 2) m1 m2 m3 := by
  refine ⟨?_, fun m hm => ?_⟩
  · simp only [List.nodup_cons, List.mem_cons, List.not_mem_nil, or_false, not_or, not_false_eq_true, List.nodup_nil, and_true]
    refine ⟨⟨?_, ?_, ?_, ?_, ?_⟩, ⟨?_, ?_, ?_, ?_⟩, ⟨?_, ?_, ?_⟩, ⟨?_, ?_⟩, ?_⟩ <;> (intro (z : (_ : Nat) = _); (clear h1 h2 h3; omega))
  · simp only [List.mem_cons, List.not_mem_nil, or_false, not_or] at hm ⊢
    rcases hm with rfl | rfl | rfl <;> refine ⟨?_, ?_, ?_, ?_, ?_⟩ <;> (intro (z : (_ : Nat) = _); omega)
section
variable {X : Cx} {es : List Expr} {k : Nat} {tpos : Pos}
theorem pi_zip3 {l m o : Expr} {tl tm to : TE} {p pos : Pos} (hg : Gl X "zip") (hm : X.mg "zip" = none) (hl : PE X l tl) (hq : PE X m tm) (ho : PE X o to) (hs : starEach [l, m, o] X.env = [(false, eval l X.env), (false, eval m X.env), (false, eval o X.env)] := by rfl) (hs2 : starEach [m, o] X.env = [(false, eval m X.env), (false, eval o X.env)] := by rfl) (hs3 : starEach [o] X.env = [(false, eval o X.env)] := by rfl) :
    PI X (.Tuple es k tpos) (.Call (.Name "zip" p) [l, m, o] [] pos) (iZip3 X.K tl tm to) := by
  intro pins s σ H R I h
  refine Call_ (ld_blt I hg hm PyProof.Rows.boot_zip (PyProof.Rows.callWith_type1 ?_ (by rw [hs, hs2]) (by rw [hs2]; rfl)))
  refine thn ((pa_cons hl (pa_cons hq (pa_cons ho pa_nil hs3) (by rw [hs2, hs3])) (by rw [hs, hs2])) pos pins s σ H (fun vs H3 => ∃ (x y z : V), vs = [x, y, z] ∧ ∃ a b c xs ys zs, x = .ref a ∧ y = .ref b ∧ z = .ref c ∧ SqL X.K H3 a xs ∧ SqL X.K H3 b ys ∧ SqL X.K H3 c zs ∧ R (Itz3 X.K a b c (min (min xs.length ys.length) zs.length)) H3) I ?_) fun us s1 ⟨vs, H1, I1, r, x, y, z, e, a, b, c, xs, ys, zs, ea, eb, ec, ha, hb, hc, q⟩ => ?_
  · show tl σ H fun x H1 => tm σ H1 fun y H2 => to σ H2 fun z H3 => ∃ x' y' z', [x, y, z] = [x', y', z'] ∧ _
    have e : (fun (x : V) (H1 : Hp) => tm σ H1 fun y H2 => to σ H2 fun z H3 => ∃ x' y' z', [x, y, z] = [x', y', z'] ∧ ∃ a b c xs ys zs, x' = V.ref a ∧ y' = .ref b ∧ z' = .ref c ∧ SqL X.K H3 a xs ∧ SqL X.K H3 b ys ∧ SqL X.K H3 c zs ∧ R (Itz3 X.K a b c (min (min xs.length ys.length) zs.length)) H3) =
        fun (x : V) (H1 : Hp) => tm σ H1 fun y H2 => to σ H2 fun z H3 => ∃ a b c xs ys zs, x = V.ref a ∧ y = .ref b ∧ z = .ref c ∧ SqL X.K H3 a xs ∧ SqL X.K H3 b ys ∧ SqL X.K H3 c zs ∧ R (Itz3 X.K a b c (min (min xs.length ys.length) zs.length)) H3 := by
      funext x H1
      congr 1
      funext y H2
      congr 1
      funext z H3
      refine propext ⟨fun ⟨x', y', z', e, q⟩ => ?_, fun q => ⟨x, y, z, rfl, q⟩⟩
      cases e
      exact q
    rw [e]
    exact h
  subst e ea eb ec
  obtain ⟨u, ru, rfl, r1, r⟩ : ∃ u ru, us = u :: ru ∧ RelV (.ref a) u ∧ Vals [.ref b, .ref c] ru := by
    cases r with
    | cons a b => exact ⟨_, _, rfl, a, b⟩
  refine L2.put_away fun G'2304x22 h'2304x22 => ?_
  obtain ⟨v, t, rfl, r2, r3⟩ := Vals.two r
  refine h'2304x22 ?_
  cases r1
  cases r2
  cases r3
  refine L2.put_away fun G'2304x26 h'2304x26 => ?_
  obtain ⟨us, ru, pu, _⟩ := I1.list ha
  refine h'2304x26 ?_
  refine L2.put_away fun G'2304x27 h'2304x27 => ?_
  obtain ⟨vs, rv, pv, _⟩ := I1.list hb
  refine h'2304x27 ?_
  refine L2.put_away fun G'2304x28 h'2304x28 => ?_
  obtain ⟨ts, rt, pt, _⟩ := I1.list hc
  refine h'2304x28 ?_
  have la : a < s1.heap.objs.size := by obtain ⟨o, e, _⟩ := pu.isList; exact Heap.lt_size e
  have lb : b < s1.heap.objs.size := by obtain ⟨o, e, _⟩ := pv.isList; exact Heap.lt_size e
  have lc : c < s1.heap.objs.size := by obtain ⟨o, e, _⟩ := pt.isList; exact Heap.lt_size e
  refine call_zip3 pu.isList pv.isList pt.isList fun h' hz hTI hTO hi1 hi2 hi3 hk => ?_
  refine wpAny_pyIter_zip hz ?_
  have I2 : Inv X pins σ H1 { s1 with heap := h' } := I1.kept (t' := s1.toks) hk
  refine ⟨_, _, _, _, H1, rfl, I2, turn_zip3 (apart3 la lb lc), ⟨hz, hTI, ⟨_, _, _, hTO⟩, hi1, hi2, hi3⟩, fun c hc => ?_, q⟩
  have hc' : s1.heap.objs.size ≤ c := by
    simp only [List.mem_cons, List.not_mem_nil, or_false] at hc
    rcases hc with rfl | rfl | rfl | rfl | rfl | rfl <;> first | exact Nat.le_refl _ | exact Nat.le_add_right _ _
  exact I1.fpOk hc' (I1.hok.fresh hc')
end
theorem iZip3_ap {K : PySem.W.Frag} {ta tb tc : TE} {σ : St} {H : Hp} {R : It → Hp → Prop} : iZip3 K ta tb tc σ H R = ta σ H fun x H1 => tb σ H1 fun y H2 => tc σ H2 fun z H3 => ∃ a b c xs ys zs, x = .ref a ∧ y = .ref b ∧ z = .ref c ∧ SqL K H3 a xs ∧ SqL K H3 b ys ∧ SqL K H3 c zs ∧ R (Itz3 K a b c (min (min xs.length ys.length) zs.length)) H3 := rfl
theorem compW_zip3 {K : PySem.W.Frag} {a b c : Addr} {xs ys zs : List V} {n : Nat} {g : TG} {tt : TT} {te : TE} {own : List Str} {fr : List Nat} {σ : St} {H : Hp} {Q : VK} (Sv : St → Prop) (Pv : Addr → Nat → List V → Hp → Prop) (hn : min (min xs.length ys.length) zs.length = n) (hS : Sv (st0 own fr σ))
    (h0 : ∀ D, H D = none → Pv D 0 [] (upd H D (.lst []))) (hl : ∀ D i vs H', H' D = some (.lst vs) → Pv D i vs H' → SqL K H' a xs ∧ SqL K H' b ys ∧ SqL K H' c zs)
    (hs : ∀ D i u v t T vs σ H', xs[i]? = some u → ys[i]? = some v → zs[i]? = some t → i < n → H' T = none → Sv σ → H' D = some (.lst vs) → vs.length ≤ i → Pv D i vs H' → g (.ref T) σ (upd H' T (.tup [u, v, t])) fun σ2 H2 => tt σ2 H2 fun b H3 => if b = true then te σ2 H3 fun y H4 => CompP Sv Pv D i σ2 y H4 else CompN Sv Pv D (i + 1) σ2 H3)
    (hd : ∀ D vs H', H' D = some (.lst vs) → Pv D n vs H' → Q (.ref D) H') : CompW (Itz3 K a b c n) g tt te own fr σ H Q := by
  intro D hD
  refine ⟨fun i m σ H => m = n - i ∧ i ≤ n ∧ CompN Sv Pv D i σ H, ⟨_, rfl, Nat.zero_le _, hS, [], upd_same, Nat.le_refl _, h0 D hD⟩, ?_⟩
  rintro i m σ1 H1 ⟨rfl, hi, hs1, vs, hy, hy2, p⟩
  refine L2.put_away fun G'2307x7 h'2307x7 => ?_
  obtain ⟨qa, qb, qc⟩ := hl D i vs H1 hy p
  refine h'2307x7 ?_
  by_cases hlt : i < n
  · refine .inr ⟨⟨hlt, xs, ys, zs, qa, qb, qc, hn⟩, CompN Sv Pv D (i + 1), fun σ' H' p' => ⟨n - (i + 1), by (clear hn h0 hl hs hi hy2 h'2307x7; omega), rfl, hlt, p'⟩, fun x H' y => ?_⟩
    refine L2.put_away fun G'2307x10 h'2307x10 => ?_
    obtain ⟨T, u, v, t, nT, rfl, rfl, f1, f2, f3⟩ := y
    refine h'2307x10 ?_
    exact hs D i u v t T vs σ1 H1 (f1 xs qa) (f2 ys qb) (f3 zs qc) hlt nT hs1 hy hy2 p
  · have e : i = n := by (clear hn h0 hl hs hy2 h'2307x7; omega)
    subst e
    exact .inl ⟨⟨rfl, xs, ys, zs, qa, qb, qc, hn⟩, hd D vs H1 hy p⟩
end L2
namespace L2
open PySem PySem.Spec PyProof.Rows
section
variable {X : Cx}
theorem call_sumA (hc : X.calm = true) : CallR X (.builtin "sum") (fun vs H Q => ∃ (a : Addr) (ns : List Int), vs = [.ref a] ∧ SqL X.K H a (ns.map V.int) ∧ Q (.int ns.sum) H) := by
  intro pins s σ H xs us Q I r h
  refine L2.put_away fun G'2314x2 h'2314x2 => ?_
  obtain ⟨a, ns, rfl, hq, q⟩ := h
  refine h'2314x2 ?_
  refine L2.put_away fun G'2314x3 h'2314x3 => ?_
  obtain ⟨u, rfl, r1⟩ := Vals.one r
  refine h'2314x3 ?_
  cases r1
  refine L2.put_away fun G'2314x5 h'2314x5 => ?_
  obtain ⟨its, rv, pl, hz⟩ := I.list hq
  refine h'2314x5 ?_
  have hi : IntsAre its ns := intsAre_of rv
  obtain ⟨ys, ex⟩ := hi.allInts.items
  have hns : ns = ys.toList.map (·.1) := by rw [← hi.numsOf, ← nums_intItems, ← ex]
  have hsz : ys.size = ns.length := by rw [hns, List.length_map, Array.length_toList]
  have hL := pl.isList
  rw [ex] at hL
  refine call_sum_walkG (iter_intList hL fun s₂ e st hfp hlI => ?_)
  subst e
  refine ⟨_, _, _, _, _, _, numAt ys, rfl, Walks.list (A := X.A.in1) (I.ok.hd hc) _ a hlI (intItems ys), st, hfp, (fun _ _ => intItems_at), fun h' tk t' hk => ?_⟩
  have e2 : preSum (numAt ys) (intItems ys).size = ns.sum := by
    have : (intItems ys).size = ys.size := by simp [intItems]
    rw [this, preSum_eq, ← hns, hsz, List.take_length]
  rw [e2]
  exact ⟨.int ns.sum, H, I.kept (old_kept hk), ⟨t', rfl⟩, q⟩
end
end L2
namespace L2
open PySem PySem.Spec PyProof.Rows
section
variable {X : Cx}
noncomputable def rInsert : V → List V → Hp → VK → Prop := fun x vs H Q => ∃ l xs y, ∃ i : Int, x = .ref l ∧ vs = [.int i, y] ∧ H l = some (.lst xs) ∧ xs.length < sizeLine ∧ 0 ≤ i ∧ i ≤ xs.length ∧ Q .non (upd H l (.lst (xs.take i.toNat ++ y :: xs.drop i.toNat)))
theorem mt_insert : MtM X "list.insert" rInsert := by
  intro pins s σ H x vs v us Q I rx rv h
  refine L2.put_away fun G'2323x2 h'2323x2 => ?_
  obtain ⟨l, xs, y, i, rfl, rfl, hH, hz, h0, h1, q⟩ := h
  refine h'2323x2 ?_
  cases rx
  refine L2.put_away fun G'2323x4 h'2323x4 => ?_
  obtain ⟨u1, u, rfl, r1, ru⟩ := Vals.two rv
  refine h'2323x4 ?_
  obtain ⟨t, rfl⟩ := r1
  refine L2.put_away fun G'2323x6 h'2323x6 => ?_
  obtain ⟨z, its, n, r, hl, e⟩ := I.lstM hH
  refine h'2323x6 ?_
  have k63 : i < 2 ^ 63 := by
    rw [sizeLine_eq] at hz
    (clear h0 z hl; omega)
  have hfit : ¬ (!Builtin.List.listFitsIndex i) = true := by
    rw [fitsIndex_both (by (clear hz h1 z hl k63; omega)) k63]
    exact Bool.false_ne_true
  have hM := AutoSeq1.list_insert_list_int_val_1 l its.toArray n i t u hfit (by rw [List.size_toArray]; (clear h0 h1 z k63; omega))
  refine call_meets F.slot_list_insert ⟨_, e, rfl⟩ F.entry_list_insert (F.args_list_insert_3 _ _ _) hM ⟨e, ?_⟩
  refine ⟨.non, _, I.lset (its' := its.take i.toNat ++ u :: its.drop i.toNat) hH e ?_ ((r.take _).append (.cons ru (r.drop _))) ?_, rfl, q⟩
  · show (its.toArray.extract 0 (if i < 0 then (i + (its.toArray.size : Int)).toNat else min i.toNat its.toArray.size)).push u ++ its.toArray.extract (if i < 0 then (i + (its.toArray.size : Int)).toNat else min i.toNat its.toArray.size) = _
    rw [if_neg (by (clear hz h1 z hl k63; omega)), List.size_toArray, Nat.min_eq_left (by (clear hz h0 z k63; omega))]
    simp [List.take_of_length_le]
  · rw [List.length_append, List.length_cons, List.length_take, List.length_drop]
    (clear h0 z k63 hl h1; omega)
end
end L2
namespace L2
open PySem PySem.Spec PySem.Calls PyProof.Rows PySem.W
noncomputable def rIsXO (C C' : Addr) (bm : List Value) : List V → Hp → VK → Prop := fun xs H Q => ∃ a, xs = [.ref a, .ref C'] ∧ H a = some (excO a (.ref C)) ∧ Q (.bl ((Value.ref C :: bm).contains (.ref C'))) H
theorem call_isXO {X : Cx} {x x' : Str} {C C' : Addr} {bm bm' : List Value} (Z : OC X.K C) (O : OX X.K X.mg x C bm) (ho : (Value.ref C :: bm).contains (.type "object") = true) (O' : OX X.K X.mg x' C' bm') : CallR X (.builtin "isinstance") (rIsXO C C' bm) := by
  intro pins s σ H xs us Q I r h
  refine L2.put_away fun G'2330x2 h'2330x2 => ?_
  obtain ⟨a, rfl, ha, q⟩ := h
  refine h'2330x2 ?_
  refine L2.put_away fun G'2330x3 h'2330x3 => ?_
  obtain ⟨u, c, rfl, r1, r2⟩ := Vals.two r
  refine h'2330x3 ?_
  obtain rfl : c = Value.ref C' := r2
  obtain rfl : u = Value.ref a := r1
  have hoa := (show ObjOk X.prog X.w H s.heap a (excO a (.ref C)) from I.hok a _ ha)
  exact kia_one (kitx_exc Z O ho) I.kIn hoa.1 (kitOne_own O O') (fun z => nomatch z) fun tk => ⟨.bl _, H, I.tok tk, rfl, q⟩
end L2
namespace L2
open PySem PySem.Spec PySem.Calls PyProof.Rows PySem.W SM
section
variable {X : Cx}
end
theorem asc_iff {z : Str} : Asc z ↔ ∀ c ∈ z.cps.toList, c < 128 := by
  unfold Asc
  rw [Array.all_eq_true_iff_forall_mem]
  exact ⟨fun h c hc => of_decide_eq_true (h c (Array.mem_toList_iff.mp hc)), fun h c hc => decide_eq_true (h c (Array.mem_toList_iff.mpr hc))⟩
theorem Asc.slice {z : Str} (h : Asc z) (lo hi : Option Int) : Asc (Txt.slice z lo hi) := by
  unfold Txt.slice
  split
  · exact h
  · rw [asc_iff] at h ⊢
    intro c hc
    simp only [List.mem_filterMap] at hc
    refine L2.put_away fun G'2347x7 h'2347x7 => ?_
    obtain ⟨i, _, e⟩ := hc
    refine h'2347x7 ?_
    exact h c (Array.mem_toList_iff.mpr (Array.mem_of_getElem? e))
end L2
namespace L2
open PySem PySem.Spec PySem.Calls PyProof.Rows PySem.W
end L2
namespace L2
open PySem PySem.Spec PySem.Calls PyProof.Rows PySem.W
section
variable {X : Cx} {k : Nat} {C : Addr} {ps : List Str} {sp : Sp} {x m : Str} {p pos apos : Pos} {e o : Expr} {es : List Expr} {ta : TE} {t : TA}
end
noncomputable def tFmt (te : TE) : TE := fun σ H Q => te σ H fun x H1 => (∃ i, x = .int i ∧ i.natAbs.log2 < 1920 ∧ Q (.str (toString i)) H1) ∨ ∃ z, x = .str z ∧ z.length ≤ sizeLine ∧ Q (.str z) H1
noncomputable abbrev TJ := Str → TE
noncomputable def jNil : TJ := fun acc _ H Q => acc.length ≤ sizeLine ∧ Q (.str acc) H
noncomputable def jCons (te : TE) (tj : TJ) : TJ := fun acc σ H Q => te σ H fun x H1 => ∃ z, x = .str z ∧ (acc ++ z).length ≤ sizeLine ∧ tj (acc ++ z) σ H1 Q
noncomputable def tJoin (tj : TJ) : TE := fun σ H Q => tj Str.empty σ H Q
section
variable {σ : St} {H : Hp} {Q : VK} {te : TE} {tj : TJ} {acc : Str}
theorem tFmt_ap : tFmt te σ H Q = te σ H fun x H1 => (∃ i, x = .int i ∧ i.natAbs.log2 < 1920 ∧ Q (.str (toString i)) H1) ∨ ∃ z, x = .str z ∧ z.length ≤ sizeLine ∧ Q (.str z) H1 := rfl
theorem jNil_ap : jNil acc σ H Q = (acc.length ≤ sizeLine ∧ Q (.str acc) H) := rfl
theorem jCons_ap : jCons te tj acc σ H Q = te σ H fun x H1 => ∃ z, x = .str z ∧ (acc ++ z).length ≤ sizeLine ∧ tj (acc ++ z) σ H1 Q := rfl
theorem tJoin_ap : tJoin tj σ H Q = tj Str.empty σ H Q := rfl
end
section
variable {X : Cx} {e a b : Expr} {es : List Expr} {te : TE} {tj : TJ} {pos : Pos}
end
section
variable {K : PySem.W.Frag} {σ : St} {H : Hp} {Q : VK} {D : Ends} {ta tv : TE} {t : TA} {f m : Str} {C : Addr} {sp : Sp} {dvs : List V} {E : XK} {rd : V → V → Hp → VK → Prop}
theorem tFld_ap : tFld K ta f σ H Q = ta σ H fun x H1 => ∃ a C dx fs v, x = .ref a ∧ H1 a = some (.ins C dx fs) ∧ Cls K C ∧ NoAttr K C f ∧ fs.lookup f = some v ∧ Q v H1 := rfl
theorem sFld_ap : sFld K ta tv f D σ H = tv σ H fun y H1 => ta σ H1 fun x H2 => ∃ a C dx fs, x = .ref a ∧ H2 a = some (.ins C dx fs) ∧ Cls K C ∧ NoAttr K C f ∧ fs.length < 1000 ∧ D.nx σ (upd H2 a (.ins C dx (putF f y fs))) := rfl
theorem sFldAug_ap : sFldAug K ta tv rd f D σ H = ta σ H fun x H1 => ∃ a C dx fs v, x = .ref a ∧ H1 a = some (.ins C dx fs) ∧ Cls K C ∧ NoAttr K C f ∧ fs.lookup f = some v ∧ tv σ H1 fun y H2 => rd v y H2 fun z H3 => ∃ dx' fs', H3 a = some (.ins C dx' fs') ∧ fs'.length < 1000 ∧ D.nx σ (upd H3 a (.ins C dx' (putF f z fs'))) := rfl
theorem tMeth_ap : tMeth C m sp dvs E ta t σ H Q = ta σ H fun x H1 => ∃ a dx fs, x = .ref a ∧ H1 a = some (.ins C dx fs) ∧ fs.lookup m = none ∧ t σ H1 fun vs H2 => sp (x :: (vs ++ dvs)) H2 Q E := rfl
theorem tMake_ap : tMake C sp dvs E t σ H Q = t σ H fun vs H1 => ∀ x dx, H1 x = none → H1 dx = none → dx ≠ x → sp (.ref x :: (vs ++ dvs)) (upd (upd H1 dx (.own x)) x (.ins C dx [])) (fun v H2 => v = .non ∧ Q (.ref x) H2) E := rfl
end
end L2
set_option maxHeartbeats 4000000
open PySem L2 SM
local macro_rules | `(tactic| walk_at "wp") => `(tactic| try simp only [tSeq_ap, tIfS_ap, tAsg_ap, gName_ap, tRet_ap, tRetN_ap, tNext_ap, tBreak_ap, tCont_ap, tDrop_ap, tC_ap, tVar_0, tVar_s, tOp_ap, tUn_ap, rI0_ap, rI_ap, rU_ap, rEq_int, rNe_int, tTest_ap, tB_ap, ex_bl, ex_ref, ex_int, tAnd_ap, tOr_ap, tNot_ap, tAndV_ap, tOrV_ap, tNotV_ap, tIf_ap, tNil_ap, tCons_ap, tTup_ap, tLst_ap, tCall_ap, tCB_ap, tChain_ap, tPar_ap, ex_two, tAug_ap, ipI_ap, tSl_ap, tNoPart_ap, tPart_ap, tBM_ap, tBM0_ap, tTrue_ap, gSub_ap, gCons_ap, gNil_ap, tFor_ap, iRng1_ap, iRng2_ap, iRngA_ap, iRng3_ap, iRngN_ap, iRevR_ap, tRng_ap, iList_ap, iTup_ap, iRev_ap, iZip_ap, iZip3_ap, iEnum_ap, iEnumT_ap, iStr_ap, tFmt_ap, jNil_ap, jCons_ap, tJoin_ap, tFld_ap, sFld_ap, sFldAug_ap, tMeth_ap, tMake_ap, tListRev_ap, tMinD_ap, tMaxD_ap, tComp_ap, ite_and, L2.start, cxOf_K, cxComp_K, cxCompX_K, List.map_cons, List.map_nil, List.length_cons, List.length_nil, List.replicate, List.cons_append, List.nil_append, List.append_nil, List.set_cons_zero, List.set_cons_succ, decide_eq_true_eq, Bool.not_eq_true', decide_eq_false_iff_not, Bool.not_eq_eq_eq_not, Bool.not_true, Bool.not_false, sizeLine_eq, oV, reduceCtorEq, isI_ii, isI_ib, isI_ni, isI_bb, Nat.reduceAdd, Nat.reduceSub, Nat.reduceLeDiff, Nat.zero_add, true_and, and_true, forall_const, Bool.false_eq_true, if_true, if_false, false_implies, true_implies, not_false_eq_true, not_true_eq_false, implies_true])
seal L2.PSs L2.PS L2.PE L2.PT L2.PA L2.PI L2.PG L2.PTs L2.PW L2.OpR
theorem L2.bnd1 {P : List PySem.Value → Prop} (h : ∀ a : PySem.Value, P [a]) : ∀ us : List PySem.Value, us.length = 1 → P us
  | [a], _ => h a
theorem L2.bnd2 {P : List PySem.Value → Prop} (h : ∀ a b : PySem.Value, P [a, b]) : ∀ us : List PySem.Value, us.length = 2 → P us
  | [a, b], _ => h a b
theorem L2.bnd3 {P : List PySem.Value → Prop} (h : ∀ a b c : PySem.Value, P [a, b, c]) : ∀ us : List PySem.Value, us.length = 3 → P us
  | [a, b, c], _ => h a b c
theorem L2.bnd4 {P : List PySem.Value → Prop} (h : ∀ a b c d : PySem.Value, P [a, b, c, d]) : ∀ us : List PySem.Value, us.length = 4 → P us
  | [a, b, c, d], _ => h a b c d
namespace SMk63
open PySem L2 SM
noncomputable def top (i : Nat) : Stmt := PySem.Challenge.pw_shiftmeet_k63_waits_of_letters.main.body.getD i (.Pass ⟨0, 0, 0, 0⟩)
noncomputable abbrev s_divisor : Stmt := top 10
noncomputable abbrev s_least_round : Stmt := top 11
noncomputable abbrev s_lies_in : Stmt := top 14
noncomputable abbrev s_right_for : Stmt := top 15
noncomputable abbrev s_part_of_part : Stmt := top 16
noncomputable abbrev s_lets_by : Stmt := top 17
noncomputable abbrev s_paper_names : Stmt := top 18
noncomputable abbrev s_shifts_of_two : Stmt := top 20
noncomputable abbrev s_shifts : Stmt := top 21
noncomputable abbrev s_pair_of : Stmt := top 22
noncomputable abbrev s_lets_meet : Stmt := top 24
noncomputable abbrev s_paper_wait : Stmt := top 25
noncomputable abbrev s_pair_round : Stmt := top 26
noncomputable abbrev s_waits_of : Stmt := top 28
noncomputable abbrev s_law_cell_at : Stmt := top 30
noncomputable abbrev s_law_whole : Stmt := top 31
noncomputable abbrev s_law_big : Stmt := top 32
noncomputable abbrev s_law_divisor : Stmt := top 33
noncomputable abbrev s_law_plan : Stmt := top 34
noncomputable abbrev s_law_meet : Stmt := top 35
noncomputable abbrev s_law_round : Stmt := top 36
noncomputable abbrev s_law_by_parts : Stmt := top 37
noncomputable abbrev s_law_paper : Stmt := top 38
noncomputable abbrev s_law_bad : Stmt := top 39
noncomputable abbrev s_law_refused : Stmt := top 40
noncomputable abbrev s_law_made : Stmt := top 41
noncomputable abbrev s_law : Stmt := top 42
theorem sc_divisor : FnScope ["one", "other", "rest"] ["one", "other"] (defScope s_divisor) := ⟨rfl, rfl, rfl, by decide +kernel, rfl, by decide +kernel, by decide +kernel⟩
theorem sc_least_round : FnScope ["numbers", "whole", "number"] ["numbers"] (defScope s_least_round) := ⟨rfl, rfl, rfl, by decide +kernel, rfl, by decide +kernel, by decide +kernel⟩
theorem sc_lies_in : FnScope ["waking", "part", "period", "length", "common"] ["waking", "part"] (defScope s_lies_in) := ⟨rfl, rfl, rfl, by decide +kernel, rfl, by decide +kernel, by decide +kernel⟩
theorem sc_right_for : FnScope ["plan", "part", "paper", "by", "number", "below"] ["plan", "part", "paper"] (defScope s_right_for) := ⟨rfl, rfl, rfl, by decide +kernel, rfl, by decide +kernel, by decide +kernel⟩
theorem sc_part_of_part : FnScope ["part", "by", "number"] ["part", "by", "number"] (defScope s_part_of_part) := ⟨rfl, rfl, rfl, by decide +kernel, rfl, by decide +kernel, by decide +kernel⟩
theorem sc_lets_by : FnScope ["plan", "paper"] ["plan", "paper"] (defScope s_lets_by) := ⟨rfl, rfl, rfl, by decide +kernel, rfl, by decide +kernel, by decide +kernel⟩
theorem sc_paper_names : FnScope ["paper", "names", "below"] ["paper"] (defScope s_paper_names) := ⟨rfl, rfl, rfl, by decide +kernel, rfl, by decide +kernel, by decide +kernel⟩
theorem sc_shifts_of_two : FnScope ["one", "other", "common", "first"] ["one", "other"] (defScope s_shifts_of_two) := ⟨rfl, rfl, rfl, by decide +kernel, rfl, by decide +kernel, by decide +kernel⟩
theorem sc_shifts : FnScope ["one", "other", "plan", "waking"] ["one", "other"] (defScope s_shifts) := ⟨rfl, rfl, rfl, by decide +kernel, rfl, by decide +kernel, by decide +kernel⟩
theorem sc_pair_of : FnScope ["one", "other", "k"] ["one", "other", "k"] (defScope s_pair_of) := ⟨rfl, rfl, rfl, by decide +kernel, rfl, by decide +kernel, by decide +kernel⟩
theorem sc_lets_meet : FnScope ["one", "other", "paper"] ["one", "other", "paper"] (defScope s_lets_meet) := ⟨rfl, rfl, rfl, by decide +kernel, rfl, by decide +kernel, by decide +kernel⟩
theorem sc_paper_wait : FnScope ["one", "other", "paper"] ["one", "other", "paper"] (defScope s_paper_wait) := ⟨rfl, rfl, rfl, by decide +kernel, rfl, by decide +kernel, by decide +kernel⟩
theorem sc_pair_round : FnScope ["one", "other", "k", "pair"] ["one", "other", "k"] (defScope s_pair_round) := ⟨rfl, rfl, rfl, by decide +kernel, rfl, by decide +kernel, by decide +kernel⟩
theorem sc_waits_of : FnScope ["hands", "papers"] ["hands", "papers"] (defScope s_waits_of) := ⟨rfl, rfl, rfl, by decide +kernel, rfl, by decide +kernel, by decide +kernel⟩
theorem sc_law_cell_at : FnScope ["script", "k"] ["script", "k"] (defScope s_law_cell_at) := ⟨rfl, rfl, rfl, by decide +kernel, rfl, by decide +kernel, by decide +kernel⟩
theorem sc_law_whole : FnScope ["found"] ["found"] (defScope s_law_whole) := ⟨rfl, rfl, rfl, by decide +kernel, rfl, by decide +kernel, by decide +kernel⟩
theorem sc_law_big : FnScope ["cell"] ["cell"] (defScope s_law_big) := ⟨rfl, rfl, rfl, by decide +kernel, rfl, by decide +kernel, by decide +kernel⟩
theorem sc_law_divisor : FnScope ["one", "other"] ["one", "other"] (defScope s_law_divisor) := ⟨rfl, rfl, rfl, by decide +kernel, rfl, by decide +kernel, by decide +kernel⟩
theorem sc_law_plan : FnScope ["cell", "part", "by", "great", "number", "plan", "k", "period", "at", "c", "times"] ["cell", "part", "by", "great"] (defScope s_law_plan) := ⟨rfl, rfl, rfl, by decide +kernel, rfl, by decide +kernel, by decide +kernel⟩
theorem sc_law_meet : FnScope ["one", "other"] ["one", "other"] (defScope s_law_meet) := ⟨rfl, rfl, rfl, by decide +kernel, rfl, by decide +kernel, by decide +kernel⟩
theorem sc_law_round : FnScope ["one", "other"] ["one", "other"] (defScope s_law_round) := ⟨rfl, rfl, rfl, by decide +kernel, rfl, by decide +kernel, by decide +kernel⟩
theorem sc_law_by_parts : FnScope ["number", "one", "other", "by", "papers", "wait", "c", "yours", "mine"] ["number", "one", "other", "by"] (defScope s_law_by_parts) := ⟨rfl, rfl, rfl, by decide +kernel, rfl, by decide +kernel, by decide +kernel⟩
theorem sc_law_paper : FnScope ["cell", "one", "other", "by", "name", "wait", "number", "found", "k", "papers", "mine", "yours"] ["cell", "one", "other", "by"] (defScope s_law_paper) := ⟨rfl, rfl, rfl, by decide +kernel, rfl, by decide +kernel, by decide +kernel⟩
theorem sc_law_bad : FnScope ["cell", "paper", "many", "wrong", "number", "some"] ["cell", "paper", "many", "wrong"] (defScope s_law_bad) := ⟨rfl, rfl, rfl, by decide +kernel, rfl, by decide +kernel, by decide +kernel⟩
theorem sc_law_refused : FnScope ["hands", "papers", "caught", "e"] ["hands", "papers"] (defScope s_law_refused) := ⟨rfl, rfl, rfl, by decide +kernel, rfl, by decide +kernel, by decide +kernel⟩
theorem sc_law_made : FnScope ["script", "number", "part", "by", "k", "rows", "hands", "papers", "wrongs", "total", "paper", "wait", "wrong"] ["script"] (defScope s_law_made) := ⟨rfl, rfl, rfl, by decide +kernel, rfl, by decide +kernel, by decide +kernel⟩
theorem sc_law : FnScope ["script", "hands", "papers", "total", "wrongs", "cell", "spoiled", "at", "many", "handed", "found"] ["script"] (defScope s_law) := ⟨rfl, rfl, rfl, by decide +kernel, rfl, by decide +kernel, by decide +kernel⟩
section
variable {P : Program} {w : World} {K : PySem.W.Frag} {mg : Str → Option Value} {base : Heap}
noncomputable def sp_divisor : Sp := fun vs H Q _ => ∃ a b : Int, vs = [.int a, .int b] ∧ 0 ≤ a ∧ 0 ≤ b ∧ Q (.int (gcdI a b)) H
theorem h_divisor (T : TF K mg "divisor" s_divisor) : Has P w K mg base 1 "divisor" ["one", "other"] sp_divisor := by
  refine T.has sc_divisor (fun _ _ _ _ _ _ => L2.bnd2 fun _ _ => rfl) (fun vs H Q E h => ?_) (fun f cdv A outer s H vs Q E hr h => ?_)
  · refine L2.put_away fun G'71 h'71 => ?_
    obtain ⟨a, b, rfl, _⟩ := h
    refine h'71 ?_
    rfl
  refine L2.put_away fun G'73 h'73 => ?_
  obtain ⟨a, b, rfl, ha, hb, q⟩ := h
  refine h'73 ?_
  refine ⟨_, (pss_cons (ps_while PassesOwn.never (pt_cmpR op_ne (pv 1) pe_int (nomark _)) (pss_cons (ps_set (i := 2) sc_divisor.nd rfl (Or.inl rfl) (pe_op op_mod (pv 0) (pv 1))) (pss_cons (ps_set (i := 0) sc_divisor.nd rfl (Or.inl rfl) (pv 1)) (pss_one (ps_set (i := 1) sc_divisor.nd rfl (Or.inl rfl) (pv 2)))))) (pss_one (ps_ret (pv 0)))), ?_⟩
  walk_at "wp"
  obtain ⟨W, hW⟩ : ∃ W : Nat → St → Hp → Prop, W = fun m σ H' => ∃ (x y : Int) (r : Option V), σ = [some (.int x), some (.int y), r] ∧ H' = H ∧ 0 ≤ x ∧ 0 ≤ y ∧ gcdI x y = gcdI a b ∧ m = y.toNat := ⟨_, rfl⟩
  refine ⟨W, ⟨b.toNat, by rw [hW]; exact ⟨a, b, none, rfl, rfl, ha, hb, rfl, rfl⟩⟩, fun m σ H' h => ?_⟩
  rw [hW] at h
  refine L2.put_away fun G'79 h'79 => ?_
  obtain ⟨x, y, r, rfl, rfl, hx, hy, e, rfl⟩ := h
  refine h'79 ?_
  walk_at "wp"
  refine ⟨fun c => ?_, fun c => ?_⟩
  · have m1 := Int.emod_nonneg x c
    have m2 := Int.emod_lt_of_pos x (show 0 < y by (clear ha hb hW hx e h'79 m1; omega))
    refine ⟨_, fun _ _ h => h, ?_⟩
    walk_at "wp"
    refine ⟨by (clear ha hb hW hx e h'79 c hy; omega), (x % y).toNat, by (clear ha hb hW hx e h'79 c hy; omega), ?_⟩
    rw [hW]
    exact ⟨y, x % y, _, rfl, rfl, hy, m1, by rw [gcdI_step, e], rfl⟩
  · have c' : y = 0 := by (clear ha hb hW hx hy e h'79; omega)
    subst c'
    rw [gcdI_zero hx] at e
    rw [e]
    exact q

theorem pow_bits {x : Int} {n k : Nat} (h0 : 0 ≤ x) (h : x ≤ (2 ^ n) ^ k) : x.natAbs < 2 ^ (n * k + 1) := by
  rw [← Int.pow_mul] at h
  have e : ((2 ^ (n * k) : Nat) : Int) = 2 ^ (n * k) := by rw [Int.natCast_pow]; rfl
  rw [← e] at h
  rw [Nat.pow_succ]
  have : 0 < 2 ^ (n * k) := Nat.pow_pos (by decide)
  (clear e; omega)
noncomputable def sp_least_round (K : PySem.W.Frag) : Sp := fun vs H Q _ => ∃ (L : Addr) (zs : List Int), vs = [.ref L] ∧ SqL K H L (zs.map V.int) ∧ zs.length ≤ 200 ∧ (∀ z ∈ zs, 1 ≤ z ∧ z ≤ 2 ^ 1000) ∧ Q (.int (lcms zs)) H
theorem lcms_mok {zs : List Int} {z : Int} (hl : zs.length ≤ 200) (h : ∀ z ∈ zs, 1 ≤ z ∧ z ≤ 2 ^ 1000) (z0 : 0 ≤ z) (z1 : z ≤ 2 ^ 1000) : IntMulOk (lcms zs) z := by
  have p1 := lcms_pos (xs := zs) fun x hx => (h x hx).1
  have p2 := lcms_le (B := 2 ^ 1000) (by decide) h
  exact mok (1000 * zs.length + 1) 1001 (pow_bits (by (clear hl h z0 z1 p2; omega)) p2) (by (clear hl h p1 p2; omega)) (by (clear h z0 z1 p1 p2; omega))
theorem h_least_round (T : TF K mg "least_round" s_least_round) (G_divisor : Has P w K mg base 1 "divisor" ["one", "other"] sp_divisor) : Has P w K mg base 2 "least_round" ["numbers"] (sp_least_round K) := by
  refine T.has sc_least_round (fun _ _ _ _ _ _ => L2.bnd1 fun _ => rfl) (fun vs H Q E h => ?_) (fun f cdv A outer s H vs Q E hr h => ?_)
  · refine L2.put_away fun G'109 h'109 => ?_
    obtain ⟨a, b, rfl, _⟩ := h
    refine h'109 ?_
    rfl
  refine L2.put_away fun G'111 h'111 => ?_
  obtain ⟨L, zs, rfl, hS, hl, hz, q⟩ := h
  refine h'111 ?_
  refine ⟨_, (pss_cons (ps_set (i := 1) sc_least_round.nd rfl (Or.inl rfl) pe_int) (pss_cons (ps_for PassesOwn.never rfl (pi_list (pv 0)) (pg_name (i := 2) sc_least_round.nd rfl (Or.inl rfl)) (pss_one (ps_set (i := 1) sc_least_round.nd rfl (Or.inl rfl) (pe_op op_mulA (pv 1) (pe_op op_fdivA (pv 2) (pe_def (G_divisor.mono (by first | decide | omega)) hr (pa_cons (pv 1) (pa_cons (pv 2) pa_nil)))))))) (pss_one (ps_ret (pv 1))))), ?_⟩
  walk_at "wp"
  refine ⟨⟨_, hS⟩, ?_⟩
  obtain ⟨W, hW⟩ : ∃ W : Nat → St → Hp → Prop, W = fun i σ H' => ∃ o, σ = [some (.ref L), some (.int (lcms (zs.take i))), o] ∧ H' = H := ⟨_, rfl⟩
  refine forW_list (xs := zs.map V.int) W ?_ (fun j σ H2 _ z => ?_) (fun j x σ H2 hx z => ?_) (fun σ H2 z => ?_)
  · rw [hW]
    exact ⟨_, rfl, rfl⟩
  · rw [hW] at z
    refine L2.put_away fun G'120 h'120 => ?_
    obtain ⟨_, _, rfl⟩ := z
    refine h'120 ?_
    exact hS
  · rw [hW] at z
    refine L2.put_away fun G'123 h'123 => ?_
    obtain ⟨o, rfl, rfl⟩ := z
    refine h'123 ?_
    rw [List.getElem?_map] at hx
    refine L2.put_away fun G'125 h'125 => ?_
    obtain ⟨x, hy, rfl⟩ := Option.map_eq_some_iff.mp hx
    refine h'125 ?_
    have hx1 := hz x (List.mem_of_getElem? hy)
    have ht : ∀ z ∈ zs.take j, 1 ≤ z ∧ z ≤ 2 ^ 1000 := fun z hz' => hz z (List.mem_of_mem_take hz')
    have p1 := lcms_pos (xs := zs.take j) fun x hx => (ht x hx).1
    have lt : (zs.take j).length ≤ 200 := by rw [List.length_take]; (clear hz hW hy hx h'123 h'125 hx1 ht p1; omega)
    have gp := gcdI_pos (a := lcms (zs.take j)) (b := x) (by (clear hl hz hW hy hx h'123 h'125 hx1 ht lt; omega))
    have gl : gcdI (lcms (zs.take j)) x ≤ x := by rw [gcdI_comm]; exact gcdI_le_left _ (by (clear hl hz hW hy hx h'123 h'125 ht p1 lt gp; omega))
    walk_at "wp"
    refine ⟨_, _, rfl, by (clear hl hz hW hy hx h'123 h'125 hx1 ht lt gp gl; omega), by (clear hl hz hW hy hx h'123 h'125 ht p1 lt gp gl; omega), ?_⟩
    walk_at "wp"
    refine ⟨divA 1001 gp (by (clear hl hz hW hy hx h'123 h'125 ht p1 lt; omega)) (by decide), lcms_mok lt ht (Int.ediv_nonneg (by (clear hl hz hW hy hx h'123 h'125 ht p1 lt gp gl; omega)) (by (clear hl hz hW hy hx h'123 h'125 hx1 ht p1 lt gl; omega))) (Int.le_trans (Int.ediv_le_self _ (by (clear hl hz hW hy hx h'123 h'125 ht p1 lt gp gl; omega))) hx1.2), ?_⟩
    rw [hW]
    refine ⟨some (.int x), ?_, rfl⟩
    rw [List.take_add_one, hy]
    show _ = [_, some (V.int (lcms (zs.take j ++ [x]))), _]
    rw [lcms_snoc]
    rfl
  · rw [hW] at z
    refine L2.put_away fun G'143 h'143 => ?_
    obtain ⟨o, rfl, rfl⟩ := z
    refine h'143 ?_
    rw [List.length_map, List.take_length]
    walk_at "wp"
    exact q

noncomputable def sp_sh2 (K : PySem.W.Frag) : Sp := fun vs H Q _ => ∃ (p p2 : Addr) (u v : T3), vs = [.ref p, .ref p2] ∧ SqT K H p [.int u.1, .int u.2.1, .int u.2.2] ∧ SqT K H p2 [.int v.1, .int v.2.1, .int v.2.2] ∧ 1 ≤ u.1 ∧ 1 ≤ v.1 ∧ ∀ (t : Addr) (H' : Hp), Same H H' → H t = none → H' t = some (tupW (sh2 u v)) → Q (.ref t) H'
theorem h_shifts_of_two (T : TF K mg "shifts_of_two" s_shifts_of_two) (m_min : mg "min" = none) (G_divisor : Has P w K mg base 1 "divisor" ["one", "other"] sp_divisor) : Has P w K mg base 2 "shifts_of_two" ["one", "other"] (sp_sh2 K) := by
  refine T.has sc_shifts_of_two (fun _ _ _ _ _ _ => L2.bnd2 fun _ _ => rfl) (fun vs H Q E h => ?_) (fun f cdv A outer s H vs Q E hr h => ?_)
  · refine L2.put_away fun G'151 h'151 => ?_
    obtain ⟨p, p2, u, v, rfl, _⟩ := h
    refine h'151 ?_
    rfl
  refine L2.put_away fun G'153 h'153 => ?_
  obtain ⟨p, p2, u, v, rfl, hT, hT2, u1, v1, q⟩ := h
  refine h'153 ?_
  refine ⟨_, (pss_cons (ps_set (i := 2) sc_shifts_of_two.nd rfl (Or.inl rfl) (pe_def (G_divisor.mono (by first | decide | omega)) hr (pa_cons (pe_ix ix_tup (pv 0) pe_int (fun _ _ => rfl)) (pa_cons (pe_ix ix_tup (pv 1) pe_int (fun _ _ => rfl)) pa_nil)))) (pss_cons (ps_set (i := 3) sc_shifts_of_two.nd rfl (Or.inl rfl) (pe_op op_mod (pe_op op_sub (pe_op op_sub (pe_ix ix_tup (pv 0) pe_int (fun _ _ => rfl)) (pe_ix ix_tup (pv 1) pe_int (fun _ _ => rfl))) (pe_op op_sub (pe_ix ix_tup (pv 1) pe_int (fun _ _ => rfl)) pe_int)) (pv 2))) (pss_one (ps_ret (pe_tup (pa_cons (pv 2) (pa_cons (pv 3) (pa_cons (pe_callB (call_min2 rfl) rfl m_min (by decide +kernel) (pa_cons (pv 2) (pa_cons (pe_op op_sub (pe_op op_add (pe_ix ix_tup (pv 0) pe_int (fun _ _ => rfl)) (pe_ix ix_tup (pv 1) pe_int (fun _ _ => rfl))) pe_int) pa_nil))) pa_nil)))))))), ?_⟩
  have gp := gcdI_pos (a := u.1) (b := v.1) (by (clear v1; omega))
  walk_at "wp"
  refine ⟨_, _, _, .int u.1, rfl, rfl, hT, rfl, ?_⟩
  refine ⟨_, _, _, .int v.1, rfl, rfl, hT2, rfl, ?_⟩
  refine ⟨_, _, rfl, by (clear v1 gp; omega), by (clear u1 gp; omega), ?_⟩
  refine ⟨_, _, _, .int u.2.1, rfl, rfl, hT, rfl, ?_⟩
  refine ⟨_, _, _, .int v.2.1, rfl, rfl, hT2, rfl, ?_⟩
  walk_at "wp"
  refine ⟨_, _, _, .int v.2.2, rfl, rfl, hT2, rfl, ?_⟩
  walk_at "wp"
  refine ⟨gp, ?_⟩
  refine ⟨_, _, _, .int u.2.2, rfl, rfl, hT, rfl, ?_⟩
  refine ⟨_, _, _, .int v.2.2, rfl, rfl, hT2, rfl, ?_⟩
  walk_at "wp"
  refine ⟨_, _, rfl, ?_⟩
  walk_at "wp"
  intro t nt
  exact q t _ (same_new nt _) nt upd_same

noncomputable def shs (ws vs : List T3) : List T3 := ws.flatMap fun u => vs.map (sh2 u)
theorem shs_take {ws vs : List T3} {i : Nat} {u : T3} (e : ws[i]? = some u) : shs (ws.take (i + 1)) vs = shs (ws.take i) vs ++ vs.map (sh2 u) := by
  unfold shs
  rw [List.take_add_one, e, List.flatMap_append]
  simp
theorem shs_len : ∀ ws vs : List T3, (shs ws vs).length = ws.length * vs.length
  | [], vs => by simp [shs]
  | u :: ws, vs => by
    have := shs_len ws vs
    unfold shs at *
    rw [List.flatMap_cons, List.length_append, this, List.length_map, List.length_cons, Nat.succ_mul]
    (clear this; omega)
theorem mem_shs {ws vs : List T3} {x : T3} : x ∈ shs ws vs ↔ ∃ u ∈ ws, ∃ v ∈ vs, sh2 u v = x := by
  unfold shs
  simp only [List.mem_flatMap, List.mem_map]
theorem shs_wk {ws vs : List T3} (hw : ∀ u ∈ ws, Wk u) (hv : ∀ v ∈ vs, Wk v) : ∀ x ∈ shs ws vs, Wk x := fun x hx => by
  refine L2.put_away fun G'190 h'190 => ?_
  obtain ⟨u, hu, v, hv2, rfl⟩ := mem_shs.mp hx
  refine h'190 ?_
  exact sh2_wk (hw u hu) (hv v hv2)
noncomputable def sp_shifts (K : PySem.W.Frag) : Sp := fun vs H Q _ => ∃ (a b : Addr) (xs ys : List V) (ws us : List T3), vs = [.ref a, .ref b] ∧ SqL K H a xs ∧ Pl H xs ws ∧ SqL K H b ys ∧ Pl H ys us ∧ (∀ u ∈ ws, 1 ≤ u.1) ∧ (∀ u ∈ us, 1 ≤ u.1) ∧ ws.length ≤ 100 ∧ us.length ≤ 100 ∧
  ∀ (D : Addr) (zs : List V) (H' : Hp), Same H H' → H D = none → H' D = some (.lst zs) → Pl H' zs (shs ws us) → Q (.ref D) H'
theorem comp_shs {K : PySem.W.Frag} {a b : Addr} {p : Addr} {u : T3} {ys : List V} {us : List T3} {nm : Str} {fr : List Nat} {σ : St} {H : Hp} {Q : VK} (hS : SqL K H b ys) (hP : Pl H ys us) (hu : ∀ v ∈ us, 1 ≤ v.1) (hl : us.length ≤ 100) (hp : H p = some (tupW u)) (u1 : 1 ≤ u.1) (hst : st0 [nm] fr σ = [none, some (.ref p)])
    (hq : ∀ (D : Addr) (zs : List V) (H' : Hp), Same H H' → H D = none → H' D = some (.lst zs) → Pl H' zs (us.map (sh2 u)) → Q (.ref D) H') :
    CompW (Itl K b) (gName 0) tTrue (tCall (sp_sh2 K) [] E0 (tCons (tVar 1) (tCons (tVar 0) tNil))) [nm] fr σ H Q := by
  obtain ⟨Sv, hSv⟩ : ∃ Sv : St → Prop, Sv = fun σ => ∃ o, σ = [o, some (.ref p)] := ⟨_, rfl⟩
  obtain ⟨Pv, hPv⟩ : ∃ Pv : Addr → Nat → List V → Hp → Prop, Pv = fun D i ys H2 => H D = none ∧ Same H H2 ∧ Pl H2 ys ((us.take i).map (sh2 u)) := ⟨_, rfl⟩
  refine compW_list (xs := ys) Sv Pv (by rw [hSv, hst]; exact ⟨none, rfl⟩) (fun D hD => ?_) (fun D i ys H2 hD h => ?_) (fun D i x ys σ H2 hx hi hs hD hy h => ?_) (fun D ys H2 hD h => ?_)
  · rw [hPv]
    exact ⟨hD, same_new hD _, .nil⟩
  · rw [hPv] at h
    exact h.2.1.seq hS
  · rw [hSv] at hs
    rw [hPv] at h
    obtain ⟨o, rfl⟩ := hs
    refine L2.put_away fun G'207 h'207 => ?_
    obtain ⟨nD, g, hQ⟩ := h
    refine h'207 ?_
    refine L2.put_away fun G'208 h'208 => ?_
    obtain ⟨p2, v, e1, rfl, e3⟩ := hP.at hx
    refine h'208 ?_
    have v1 := hu v (List.mem_of_getElem? e1)
    rw [hP.1] at hi
    walk_at "wp"
    refine ⟨p, p2, u, v, rfl, SqT.of (g _ _ hp), SqT.of (g _ _ e3), u1, v1, fun t H3 g3 nt ht => ?_⟩
    have hD3 := g3 _ _ hD
    refine CompP.mk hD3 hy (by rw [sizeLine_eq]; (clear hu u1 hPv hy e1 hx h'207 h'208 v1; omega)) (by rw [hSv]; exact ⟨_, rfl⟩) (by
      rw [hPv]
      refine ⟨nD, (g.trans g3).write nD _, ?_⟩
      rw [List.take_add_one, e1, List.map_append]
      exact ((hQ.same g3).snoc ht).upd hD3)
  · rw [hPv] at h
    refine L2.put_away fun G'220 h'220 => ?_
    obtain ⟨nD, g, hQ⟩ := h
    refine h'220 ?_
    rw [hP.1, List.take_length] at hQ
    exact hq D ys H2 g nD hD hQ
theorem h_shifts (T : TF K mg "shifts" s_shifts) (G_shifts_of_two : Has P w K mg base 2 "shifts_of_two" ["one", "other"] (sp_sh2 K)) : Has P w K mg base 3 "shifts" ["one", "other"] (sp_shifts K) := by
  refine T.has sc_shifts (fun _ _ _ _ _ _ => L2.bnd2 fun _ _ => rfl) (fun vs H Q E h => ?_) (fun f cdv A outer s H vs Q E hr h => ?_)
  · refine L2.put_away fun G'225 h'225 => ?_
    obtain ⟨a, b, xs, ys, ws, us, rfl, _⟩ := h
    refine h'225 ?_
    rfl
  refine L2.put_away fun G'227 h'227 => ?_
  obtain ⟨a, b, xs, ys, ws, us, rfl, hS, hP, hS2, hP2, hw, hu, lw, lu, q⟩ := h
  refine h'227 ?_
  refine ⟨_, (pss_cons (ps_set (i := 2) sc_shifts.nd rfl (Or.inl rfl) (pe_lst pa_nil)) (pss_cons (ps_for PassesOwn.never rfl (pi_list (pv 0)) (pg_name (i := 3) sc_shifts.nd rfl (Or.inr rfl)) (pss_one (ps_expr (pe_bm PySem.F.plainAttrs_list PySem.F.slot_list_extend PySem.F.type_list_extend mt_extend (pv 2) (pa_cons (pe_comp (CompSc.capt (own := ["beside"]) (capt := ["waking"]) (fr := [3]) rfl ⟨rfl, rfl, rfl, rfl, rfl, trivial⟩ (by decide +kernel) (by decide +kernel) rfl (by decide +kernel)) rfl (pi_list (pv 1)) (fun _ _ _ => (pg_name (i := 0) (show (["beside", "waking"] : List Str).Nodup from by decide +kernel) rfl (Or.inl rfl) (Or.inr rfl))) (fun _ _ _ => pts_nil) (fun _ _ _ => (pe_def (G_shifts_of_two.mono (by first | decide | omega)) hr (pa_cons (pv 1) (pa_cons (pv 0) pa_nil))))) pa_nil))))) (pss_one (ps_ret (pv 2))))), ?_⟩
  walk_at "wp"
  intro L hL
  have g0 := same_new hL (.lst [])
  refine ⟨⟨_, g0.seq hS⟩, ?_⟩
  obtain ⟨W, hW⟩ : ∃ W : Nat → St → Hp → Prop, W = fun i σ H' => ∃ (o : Option V) (zs : List V), σ = [some (.ref a), some (.ref b), some (.ref L), o] ∧ Same H H' ∧ H' L = some (.lst zs) ∧ Pl H' zs (shs (ws.take i) us) := ⟨_, rfl⟩
  refine forW_list (xs := xs) W ?_ (fun i σ H' _ z => ?_) (fun i x σ H' hx z => ?_) (fun σ H' z => ?_)
  · rw [hW]
    exact ⟨none, [], rfl, g0, upd_same, .nil⟩
  · rw [hW] at z
    refine L2.put_away fun G'238 h'238 => ?_
    obtain ⟨_, _, _, g, _⟩ := z
    refine h'238 ?_
    exact g.seq hS
  · rw [hW] at z
    refine L2.put_away fun G'241 h'241 => ?_
    obtain ⟨o, zs, rfl, g, hL2, hZ⟩ := z
    refine h'241 ?_
    refine L2.put_away fun G'242 h'242 => ?_
    obtain ⟨p, u, e1, rfl, e3⟩ := hP.at hx
    refine h'242 ?_
    have u1 := hw u (List.mem_of_getElem? e1)
    have hi := (List.getElem?_eq_some_iff.mp e1).1
    walk_at "wp"
    refine ⟨.inl ⟨rfl, _, SqL.of hL2⟩, ⟨_, g.seq hS2⟩, ?_⟩
    refine comp_shs (a := a) (g.seq hS2) (hP2.same g) hu lu (g _ _ e3) u1 rfl fun D ds H2 g2 nD hD hQ => ?_
    have lz := hZ.1
    have ld := hQ.1
    rw [shs_len] at lz
    rw [List.length_map] at ld
    have lt : (ws.take i).length ≤ 100 := by rw [List.length_take]; (clear hw hu lu hW e1 hx h'241 h'242 u1 lz ld hi; omega)
    have lm := Nat.mul_le_mul lt lu
    refine ⟨L, D, zs, ds, rfl, rfl, g2 _ _ hL2, hD, by rw [sizeLine_eq]; (clear hw hu lw hW e1 hx h'241 h'242 u1 hi lt; omega), ?_⟩
    rw [hW]
    refine ⟨_, _, rfl, (g.trans g2).write hL _, upd_same, ?_⟩
    rw [shs_take e1]
    exact ((hZ.same g2).append hQ).upd (g2 _ _ hL2)
  · rw [hW] at z
    refine L2.put_away fun G'260 h'260 => ?_
    obtain ⟨o, zs, rfl, g, hL2, hZ⟩ := z
    refine h'260 ?_
    rw [hP.1, List.take_length] at hZ
    walk_at "wp"
    exact q L zs _ g hL hL2 hZ

noncomputable def tupP (s r : Int) : HO := .tup [.int s, .int r]
noncomputable def sp_lies_in (K : PySem.W.Frag) : Sp := fun vs H Q _ => ∃ (p p2 : Addr) (u : T3) (s r : Int), vs = [.ref p, .ref p2] ∧ H p = some (tupW u) ∧ SqT K H p2 [.int s, .int r] ∧ 1 ≤ u.1 ∧ 1 ≤ s ∧ Q (.bl (liesB u s r)) H
theorem h_lies_in (T : TF K mg "lies_in" s_lies_in) (G_divisor : Has P w K mg base 1 "divisor" ["one", "other"] sp_divisor) : Has P w K mg base 2 "lies_in" ["waking", "part"] (sp_lies_in K) := by
  refine T.has sc_lies_in (fun _ _ _ _ _ _ => L2.bnd2 fun _ _ => rfl) (fun vs H Q E h => ?_) (fun f cdv A outer s H vs Q E hr h => ?_)
  · refine L2.put_away fun G'269 h'269 => ?_
    obtain ⟨p, p2, u, s, r, rfl, _⟩ := h
    refine h'269 ?_
    rfl
  refine L2.put_away fun G'271 h'271 => ?_
  obtain ⟨p, p2, u, st, r, rfl, hp, hp2, u1, s1, q⟩ := h
  refine h'271 ?_
  refine ⟨_, (pss_cons (ps_set (i := 2) sc_lies_in.nd rfl (Or.inl rfl) (pe_ix ix_tup (pv 0) pe_int (fun _ _ => rfl))) (pss_cons (ps_set (i := 3) sc_lies_in.nd rfl (Or.inl rfl) (pe_ix ix_tup (pv 0) pe_int (fun _ _ => rfl))) (pss_cons (ps_set (i := 4) sc_lies_in.nd rfl (Or.inl rfl) (pe_def (G_divisor.mono (by first | decide | omega)) hr (pa_cons (pe_ix ix_tup (pv 1) pe_int (fun _ _ => rfl)) (pa_cons (pv 2) pa_nil)))) (pss_one (ps_ret (pe_cmpR op_ge (pe_op op_mod (pe_op op_sub (pe_op op_sub (pe_ix ix_tup (pv 1) pe_int (fun _ _ => rfl)) (pe_ix ix_tup (pv 0) pe_int (fun _ _ => rfl))) (pv 3)) (pv 4)) (pe_op op_sub (pv 2) (pv 3)) (nomark _))))))), ?_⟩
  have hT : SqT K H p [.int u.1, .int u.2.1, .int u.2.2] := SqT.of hp
  have hT2 : SqT K H p2 [.int st, .int r] := hp2
  have gp := gcdI_pos (a := st) (b := u.1) (by (clear u1; omega))
  walk_at "wp"
  refine ⟨_, _, _, .int u.1, rfl, rfl, hT, rfl, ?_⟩
  refine ⟨_, _, _, .int u.2.2, rfl, rfl, hT, rfl, ?_⟩
  refine ⟨_, _, _, .int st, rfl, rfl, hT2, rfl, ?_⟩
  walk_at "wp"
  refine ⟨_, _, rfl, by (clear u1 gp; omega), by (clear s1 gp; omega), ?_⟩
  refine ⟨_, _, _, .int r, rfl, rfl, hT2, rfl, ?_⟩
  refine ⟨_, _, _, .int u.2.1, rfl, rfl, hT, rfl, ?_⟩
  walk_at "wp"
  refine ⟨gp, ?_⟩
  exact q

theorem modB (x : Int) {m : Int} (h : 0 < m) : 0 ≤ x % m ∧ x % m < m := ⟨Int.emod_nonneg _ (by omega), Int.emod_lt_of_pos _ h⟩
theorem mulB {a b A B : Int} (a0 : 0 ≤ a) (a1 : a ≤ A) (b0 : 0 ≤ b) (b1 : b ≤ B) : 0 ≤ a * b ∧ a * b ≤ A * B := ⟨Int.mul_nonneg a0 b0, Int.mul_le_mul a1 b1 b0 (Int.le_trans a0 a1)⟩
theorem getD_all {Pz : Int → Prop} {zs : List Int} {i : Nat} (h : ∀ z ∈ zs, Pz z) (hi : i < zs.length) : Pz (zs.getD i 0) := by
  rw [List.getD_eq_getElem?_getD, List.getElem?_eq_getElem hi]
  exact h _ (List.getElem_mem hi)
theorem bitsDiv {c : Int} {n : Nat} (d : Int) (h : Builtin.Int.intBits c ≤ n) : Builtin.Int.intBits (c / d) ≤ n :=
  intBits_le_iff.mpr (Nat.lt_of_le_of_lt (Int.natAbs_ediv_le_natAbs c d) (intBits_le_iff.mp h))
theorem bitsGetD {ns : List Int} {n k : Nat} (h : ∀ z ∈ ns, Builtin.Int.intBits z ≤ n) : Builtin.Int.intBits (ns.getD k 0) ≤ n := by
  rw [List.getD_eq_getElem?_getD]
  cases e : ns[k]? with
  | none => exact Nat.zero_le _
  | some z => exact h z (List.mem_of_getElem? e)

noncomputable def sp_part_of (K : PySem.W.Frag) : Sp := fun vs H Q _ => ∃ (p : Addr) (s r b n : Int), vs = [.ref p, .int b, .int n] ∧ SqT K H p [.int s, .int r] ∧ 0 ≤ b ∧ b < 2 ^ 60 ∧ 0 ≤ n ∧ n < 2 ^ 60 ∧ ∀ D : Addr, H D = none → Q (.ref D) (upd H D (tupP (s * b) (r + s * n)))
theorem h_part_of_part (T : TF K mg "part_of_part" s_part_of_part) : Has P w K mg base 1 "part_of_part" ["part", "by", "number"] (sp_part_of K) := by
  refine T.has sc_part_of_part (fun _ _ _ _ _ _ => L2.bnd3 fun _ _ _ => rfl) (fun vs H Q E h => ?_) (fun f cdv A outer s H vs Q E hr h => ?_)
  · refine L2.put_away fun G'311 h'311 => ?_
    obtain ⟨p, s, r, b, n, rfl, _⟩ := h
    refine h'311 ?_
    rfl
  refine L2.put_away fun G'313 h'313 => ?_
  obtain ⟨p, st, r, b, n, rfl, hp, b0, b1, n0, n1, q⟩ := h
  refine h'313 ?_
  refine ⟨_, (pss_one (ps_ret (pe_tup (pa_cons (pe_op op_mulA (pe_ix ix_tup (pv 0) pe_int (fun _ _ => rfl)) (pv 1)) (pa_cons (pe_op op_add (pe_ix ix_tup (pv 0) pe_int (fun _ _ => rfl)) (pe_op op_mulA (pe_ix ix_tup (pv 0) pe_int (fun _ _ => rfl)) (pv 2))) pa_nil))))), ?_⟩
  walk_at "wp"
  refine ⟨_, _, _, .int st, rfl, rfl, hp, rfl, ?_⟩
  walk_at "wp"
  refine ⟨mokS (by (clear n0 n1 q b1; omega)) (by (clear n0 n1 q b0; omega)), ?_⟩
  refine ⟨_, _, _, .int r, rfl, rfl, hp, rfl, ?_⟩
  refine ⟨_, _, _, .int st, rfl, rfl, hp, rfl, ?_⟩
  walk_at "wp"
  exact ⟨mokS (by (clear b0 b1 q n1; omega)) (by (clear b0 b1 q n0; omega)), fun D hD => q D hD⟩
noncomputable def sp_right_for (K : PySem.W.Frag) (d : Nat) : Sp := fun vs H Q _ => ∃ (a pt : Addr) (v : V) (xs : List V) (ws : List T3) (s r : Int) (p : Pap), vs = [.ref a, .ref pt, v] ∧ SqL K H a xs ∧ Pl H xs ws ∧ (∀ u ∈ ws, 1 ≤ u.1) ∧ SqT K H pt [.int s, .int r] ∧ 1 ≤ s ∧ PapIn K anyL H v p ∧ p.dep < d ∧ ∀ H', Same H H' → Q (.bl (rightB ws s r p)) H'
theorem h_right_for (T : TF K mg "right_for" s_right_for) (m_len : mg "len" = none) (m_enumerate : mg "enumerate" = none) (G_lies_in : Has P w K mg base 2 "lies_in" ["waking", "part"] (sp_lies_in K)) (G_part_of_part : Has P w K mg base 1 "part_of_part" ["part", "by", "number"] (sp_part_of K)) :
    ∀ d : Nat, Has P w K mg base (d + 3) "right_for" ["plan", "part", "paper"] (sp_right_for K d) := by
  intro d
  induction d with
  | zero =>
    refine T.has sc_right_for (fun _ _ _ _ _ _ => L2.bnd3 fun _ _ _ => rfl) (fun vs H Q E h => ?_) (fun f cdv A outer s H vs Q E hr h => ?_)
    · refine L2.put_away fun G'330 h'330 => ?_
      obtain ⟨_, _, _, _, _, _, _, _, _, _, _, _, _, _, _, h, _⟩ := h
      refine h'330 ?_
      exact absurd h (Nat.not_lt_zero _)
    · refine L2.put_away fun G'332 h'332 => ?_
      obtain ⟨_, _, _, _, _, _, _, _, _, _, _, _, _, _, _, h, _⟩ := h
      refine h'332 ?_
      exact absurd h (Nat.not_lt_zero _)
  | succ d ih =>
  have G_right_for := ih
  refine T.has sc_right_for (fun _ _ _ _ _ _ => L2.bnd3 fun _ _ _ => rfl) (fun vs H Q E h => ?_) (fun f cdv A outer s H vs Q E hr h => ?_)
  · refine L2.put_away fun G'337 h'337 => ?_
    obtain ⟨a, pt, v, xs, ws, s, r, p, rfl, _⟩ := h
    refine h'337 ?_
    rfl
  refine L2.put_away fun G'339 h'339 => ?_
  obtain ⟨a, pt, v, xs, ws, st, r, p, rfl, hS, hP, hw, hpt, s1, hv, hd, q⟩ := h
  refine h'339 ?_
  refine ⟨_, (pss_cons (ps_if (pt_cmpR op_eq (pe_ix ix_tup (pv 2) pe_int (fun _ _ => rfl)) pe_str (nomark _)) (pss_one (ps_ret (pe_and (pe_chain op_le op_lt pe_int (pe_ix ix_tup (pv 2) pe_int (fun _ _ => rfl)) (pe_callB call_len_seq rfl m_len PySem.boot_len (pa_cons (pv 0) pa_nil))) (pe_one (pe_def (G_lies_in.mono (by first | decide | (clear hw s1 hd; omega))) hr (pa_cons (pe_ix ix_list (pv 0) (pe_ix ix_tup (pv 2) pe_int (fun _ _ => rfl)) (fun _ _ => rfl)) (pa_cons (pv 1) pa_nil))))))) pss_nil) (pss_cons (ps_set (i := 3) sc_right_for.nd rfl (Or.inl rfl) (pe_ix ix_tup (pv 2) pe_int (fun _ _ => rfl))) (pss_cons (ps_if (PW.pt (pw_or (pt_cmpR op_lt (pv 3) pe_int (nomark _)) (pw_or1 (pt_cmpR op_ne (pe_callB call_len_seq rfl m_len PySem.boot_len (pa_cons (pe_ix ix_tup (pv 2) pe_int (fun _ _ => rfl)) pa_nil)) (pv 3) (nomark _))))) (pss_one (ps_ret pe_bl)) pss_nil) (pss_cons (ps_for PassesOwn.never rfl (pi_enum rfl m_enumerate (pe_ix ix_tup (pv 2) pe_int (fun _ _ => rfl))) (pg_tup rfl (pgs_cons (pg_name (i := 4) sc_right_for.nd rfl (Or.inl rfl)) (pgs_cons (pg_name (i := 5) sc_right_for.nd rfl (Or.inl rfl)) pgs_nil))) (pss_one (ps_if (pt_not (pt_val (pe_def (G_right_for.mono (by first | decide | (clear hw s1 hd; omega))) hr (pa_cons (pv 0) (pa_cons (pe_def (G_part_of_part.mono (by first | decide | (clear hw s1 hd; omega))) hr (pa_cons (pv 1) (pa_cons (pv 3) (pa_cons (pv 4) pa_nil)))) (pa_cons (pv 5) pa_nil)))) (fun _ => rfl))) (pss_one (ps_ret pe_bl)) pss_nil))) (pss_one (ps_ret pe_bl)))))), ?_⟩
  cases hv with
  | @inn b k hb =>
    have hT : SqT K H b [.str "in", .int k] := SqT.of hb
    walk_at "wp"
    refine ⟨_, _, _, .str "in", rfl, rfl, hT, rfl, rfl, ?_⟩
    walk_at "wp"
    refine ⟨_, _, _, .int k, rfl, rfl, hT, rfl, ?_⟩
    walk_at "wp"
    have q1 := q H (Same.refl H)
    unfold rightB at q1
    refine ⟨fun c1 => ?_, fun c1 => ?_⟩
    · refine ⟨_, _, rfl, .inl hS, ?_⟩
      rw [hP.1]
      walk_at "wp"
      refine ⟨fun c2 => ?_, fun c2 => ?_⟩
      · refine ⟨_, _, _, .int k, rfl, rfl, hT, rfl, ?_⟩
        refine L2.put_away fun G'357 h'357 => ?_
        obtain ⟨b2, u, e1, e2, e3, e4⟩ := hP.ix c1 c2
        refine h'357 ?_
        refine rIxL_mk hS e1 ⟨b2, pt, u, st, r, rfl, e4, hpt, hw u e3, s1, ?_⟩
        have eg : ws.getD k.toNat (1, 0, 1) = u := by rw [List.getD_eq_getElem?_getD, e2]; rfl
        rw [decide_eq_true c1, decide_eq_true c2, eg] at q1
        simpa using q1
      · rw [decide_eq_false c2] at q1
        simpa using q1
    · rw [decide_eq_false c1] at q1
      simpa using q1
  | @par b l bb ys ps hb hl _ lz hs =>
    have hT : SqT K H b [.str "parted", .int bb, .ref l] := SqT.of hb
    simp only [Pap.dep] at hd
    walk_at "wp"
    refine ⟨_, _, _, .str "parted", rfl, rfl, hT, rfl, rfl, ?_⟩
    walk_at "wp"
    refine ⟨fun c => absurd c (by decide), fun _ => ?_⟩
    refine ⟨_, _, _, .int bb, rfl, rfl, hT, rfl, ?_⟩
    walk_at "wp"
    have hlen := hs.len
    refine ⟨fun c1 => ?_, fun c1 => ?_⟩
    · have q1 := q H (Same.refl H)
      unfold rightB at q1
      rw [decide_eq_false (show ¬ 2 ≤ bb by (clear hw s1 lz hd hlen; omega)), Bool.false_and] at q1
      exact q1
    · refine ⟨_, _, _, .ref l, rfl, rfl, hT, rfl, ?_⟩
      refine ⟨_, _, rfl, .inl (SqL.of hl), ?_⟩
      walk_at "wp"
      refine ⟨fun c2 => ?_, fun c2 => ?_⟩
      · have q1 := q H (Same.refl H)
        unfold rightB at q1
        rw [decide_eq_true (show 2 ≤ bb by (clear hw s1 lz hd hlen c2; omega)), decide_eq_false (show ¬ (ps.length : Int) = bb by rw [← hlen]; exact c2)] at q1
        simpa using q1
      · have c2' : (ys.length : Int) = bb := by (clear hw s1 lz hd c1 hlen; omega)
        refine ⟨_, _, _, .ref l, rfl, rfl, hT, rfl, ?_⟩
        walk_at "wp"
        refine ⟨_, _, rfl, SqL.of hl, ?_⟩
        obtain ⟨W, hW⟩ : ∃ W : Nat → St → Hp → Prop, W = fun i σ H' => ∃ o1 o2 : Option V, σ = [some (.ref a), some (.ref pt), some (.ref b), some (.int bb), o1, o2] ∧ Same H H' ∧ rightsB ws st r bb 0 (ps.take i) = true := ⟨_, rfl⟩
        refine forW_enum (xs := ys) W ?_ (fun i σ H' z => ?_) (fun i x T2 σ H' hx nT z => ?_) (fun σ H' z => ?_)
        · rw [hW]
          exact ⟨none, none, rfl, Same.refl _, by simp [rightsB]⟩
        · rw [hW] at z
          refine L2.put_away fun G'398 h'398 => ?_
          obtain ⟨_, _, _, g, _⟩ := z
          refine h'398 ?_
          exact SqL.of (g _ _ hl)
        · rw [hW] at z
          refine L2.put_away fun G'401 h'401 => ?_
          obtain ⟨o1, o2, rfl, g, hr2⟩ := z
          refine h'401 ?_
          refine L2.put_away fun G'402 h'402 => ?_
          obtain ⟨p, e1, hp⟩ := hs.at hx
          refine h'402 ?_
          have hi := (List.getElem?_eq_some_iff.mp hx).1
          have g1 := g.trans (same_new nT (.tup [.int i, x]))
          refine ⟨T2, _, rfl, SqT.of upd_same, rfl, ?_⟩
          walk_at "wp"
          refine ⟨pt, st, r, bb, _, rfl, Same.seqT g1 hpt, by (clear hw s1 hd c2' hW hx h'401 hr2 h'402 e1 hi c2 hlen lz; omega), by (clear hw s1 hd c2' hW hx h'401 hr2 h'402 e1 hi c1 hlen; omega), by (clear hw s1 lz hd hlen c1 c2 c2' hW hx h'401 hr2 h'402 e1 hi; omega), by (clear hw s1 hd c2' hW hx h'401 hr2 h'402 e1 c2 c1 hlen; omega), fun D hD => ?_⟩
          have g2 := g1.trans (same_new hD (tupP (st * bb) (r + st * i)))
          have sp : 1 ≤ st * bb := by
            have := Int.mul_le_mul s1 (show 1 ≤ bb by (clear hw s1 hd c2' hW hx h'401 hr2 h'402 e1 hi hD c2 hlen lz; omega)) (by decide) (by (clear hw lz hd hlen c1 c2 c2' hW hx h'401 hr2 h'402 e1 hi hD; omega))
            (clear hw s1 lz hd hlen c1 c2 c2' hW hx h'401 hr2 h'402 e1 hi hD; omega)
          refine ⟨a, D, x, xs, ws, st * bb, r + st * i, p, rfl, g2.seq hS, hP.same g2, hw, SqT.of upd_same, sp, hp.mono g2, ?_, fun H3 g3 => ?_⟩
          · have := Pap.dep_mem (List.mem_of_getElem? e1)
            (clear hw s1 lz hlen c1 c2 c2' hW hx h'401 hr2 h'402 e1 hi hD sp; omega)
          have gg := g2.trans g3
          cases c : rightB ws (st * bb) (r + st * i) p with
          | true =>
            walk_at "wp"
            rw [hW]
            refine ⟨_, _, rfl, gg, ?_⟩
            rw [rightsB_take e1, hr2, Nat.zero_add, c]
            rfl
          | false =>
            walk_at "wp"
            have q1 := q H3 gg
            unfold rightB at q1
            rw [rightsB_false e1 (by rw [Nat.zero_add]; exact c), Bool.and_false, Bool.and_false] at q1
            exact q1
        · rw [hW] at z
          refine L2.put_away fun G'430 h'430 => ?_
          obtain ⟨o1, o2, rfl, g, hr2⟩ := z
          refine h'430 ?_
          rw [hlen, List.take_length] at hr2
          walk_at "wp"
          have q1 := q H' g
          unfold rightB at q1
          rw [decide_eq_true (show 2 ≤ bb by (clear hw s1 hd c2' hW hr2 c2 hlen lz; omega)), decide_eq_true (show (ps.length : Int) = bb by (clear hw s1 lz hd c1 c2' hW hr2; omega)), hr2] at q1
          exact q1

noncomputable def sp_lets (K : PySem.W.Frag) (d : Nat) : Sp := fun vs H Q _ => ∃ (a : Addr) (v : V) (xs : List V) (ws : List T3) (p : Pap), vs = [.ref a, v] ∧ SqL K H a xs ∧ Pl H xs ws ∧ (∀ u ∈ ws, 1 ≤ u.1) ∧ PapIn K anyL H v p ∧ p.dep < d ∧ ∀ H', Same H H' → Q (.bl (rightB ws 1 0 p)) H'
theorem h_lets_by {d : Nat} (T : TF K mg "lets_by" s_lets_by) (C_ALL_TURNS : CT K mg "ALL_TURNS" [1, 0]) (G_right_for : Has P w K mg base (d + 3) "right_for" ["plan", "part", "paper"] (sp_right_for K d)) : Has P w K mg base (d + 4) "lets_by" ["plan", "paper"] (sp_lets K d) := by
  refine L2.put_away fun G'440 h'440 => ?_
  obtain ⟨a_ALL_TURNS, e_ALL_TURNS, hAT⟩ := C_ALL_TURNS
  refine h'440 ?_
  refine T.has sc_lets_by (fun _ _ _ _ _ _ => L2.bnd2 fun _ _ => rfl) (fun vs H Q E h => ?_) (fun f cdv A outer s H vs Q E hr h => ?_)
  · refine L2.put_away fun G'442 h'442 => ?_
    obtain ⟨a, v, xs, ws, p, rfl, _⟩ := h
    refine h'442 ?_
    rfl
  refine L2.put_away fun G'444 h'444 => ?_
  obtain ⟨a, v, xs, ws, p, rfl, hS, hP, hw, hv, hd, q⟩ := h
  refine h'444 ?_
  refine ⟨_, (pss_one (ps_ret (pe_def (G_right_for.mono (by first | decide | (clear h'440 hAT hw hd q; omega))) hr (pa_cons (pv 0) (pa_cons (pe_glob (v := .ref a_ALL_TURNS) rfl e_ALL_TURNS rfl) (pa_cons (pv 1) pa_nil)))))), ?_⟩
  walk_at "wp"
  exact ⟨a, a_ALL_TURNS, v, xs, ws, 1, 0, p, rfl, hS, hP, hw, hAT H, by decide, hv, hd, q⟩

noncomputable def sp_lets_meet (K : PySem.W.Frag) (d : Nat) : Sp := fun vs H Q _ => ∃ (a b : Addr) (v : V) (xs ys : List V) (ws us : List T3) (p : Pap), vs = [.ref a, .ref b, v] ∧ SqL K H a xs ∧ Pl H xs ws ∧ SqL K H b ys ∧ Pl H ys us ∧ (∀ u ∈ ws, Wk u) ∧ (∀ u ∈ us, Wk u) ∧ ws.length ≤ 100 ∧ us.length ≤ 100 ∧ PapIn K anyL H v p ∧ p.dep < d ∧ ∀ H', Same H H' → Q (.bl (rightB (shs ws us) 1 0 p)) H'
theorem h_lets_meet {d : Nat} (T : TF K mg "lets_meet" s_lets_meet) (G_shifts : Has P w K mg base 3 "shifts" ["one", "other"] (sp_shifts K)) (G_lets_by : Has P w K mg base (d + 4) "lets_by" ["plan", "paper"] (sp_lets K d)) : Has P w K mg base (d + 5) "lets_meet" ["one", "other", "paper"] (sp_lets_meet K d) := by
  refine T.has sc_lets_meet (fun _ _ _ _ _ _ => L2.bnd3 fun _ _ _ => rfl) (fun vs H Q E h => ?_) (fun f cdv A outer s H vs Q E hr h => ?_)
  · refine L2.put_away fun G'452 h'452 => ?_
    obtain ⟨a, b, v, xs, ys, ws, us, p, rfl, _⟩ := h
    refine h'452 ?_
    rfl
  refine L2.put_away fun G'454 h'454 => ?_
  obtain ⟨a, b, v, xs, ys, ws, us, p, rfl, hS, hP, hS2, hP2, hw, hu, lw, lu, hv, hd, q⟩ := h
  refine h'454 ?_
  refine ⟨_, (pss_one (ps_ret (pe_def (G_lets_by.mono (by first | decide | (clear lw lu hd q; omega))) hr (pa_cons (pe_def (G_shifts.mono (by first | decide | (clear lw lu hd q; omega))) hr (pa_cons (pv 0) (pa_cons (pv 1) pa_nil))) (pa_cons (pv 2) pa_nil))))), ?_⟩
  walk_at "wp"
  refine ⟨a, b, xs, ys, ws, us, rfl, hS, hP, hS2, hP2, fun u h => (hw u h).1, fun u h => (hu u h).1, lw, lu, fun D zs H1 g1 nD hD hZ => ?_⟩
  exact ⟨D, v, zs, _, p, rfl, SqL.of hD, hZ, fun u h => (shs_wk hw hu u h).1, hv.mono g1, hd, fun H' g' => q H' (g1.trans g')⟩

noncomputable def sp_names (K : PySem.W.Frag) (d : Nat) : Sp := fun vs H Q _ => ∃ (v : V) (p : Pap), vs = [v] ∧ PapIn K anyL H v p ∧ p.dep < d ∧ p.kn ≤ 2 ^ 20 ∧ ∀ (D : Addr) (H' : Hp), Same H H' → H D = none → H' D = some (IL p.nm) → Q (.ref D) H'
theorem h_paper_names (T : TF K mg "paper_names" s_paper_names) : ∀ d : Nat, Has P w K mg base (d + 1) "paper_names" ["paper"] (sp_names K d) := by
  intro d
  induction d with
  | zero =>
    refine T.has sc_paper_names (fun _ _ _ _ _ _ => L2.bnd1 fun _ => rfl) (fun vs H Q E h => ?_) (fun f cdv A outer s H vs Q E hr h => ?_)
    · refine L2.put_away fun G'466 h'466 => ?_
      obtain ⟨_, _, _, _, h, _⟩ := h
      refine h'466 ?_
      exact absurd h (Nat.not_lt_zero _)
    · refine L2.put_away fun G'468 h'468 => ?_
      obtain ⟨_, _, _, _, h, _⟩ := h
      refine h'468 ?_
      exact absurd h (Nat.not_lt_zero _)
  | succ d ih =>
  have G_paper_names := ih
  refine T.has sc_paper_names (fun _ _ _ _ _ _ => L2.bnd1 fun _ => rfl) (fun vs H Q E h => ?_) (fun f cdv A outer s H vs Q E hr h => ?_)
  · refine L2.put_away fun G'473 h'473 => ?_
    obtain ⟨v, p, rfl, _⟩ := h
    refine h'473 ?_
    rfl
  refine L2.put_away fun G'475 h'475 => ?_
  obtain ⟨v, p, rfl, hv, hd, hk, q⟩ := h
  refine h'475 ?_
  refine ⟨_, (pss_cons (ps_if (pt_cmpR op_eq (pe_ix ix_tup (pv 0) pe_int (fun _ _ => rfl)) pe_str (nomark _)) (pss_one (ps_ret (pe_lst (pa_cons (pe_ix ix_tup (pv 0) pe_int (fun _ _ => rfl)) pa_nil)))) pss_nil) (pss_cons (ps_set (i := 1) sc_paper_names.nd rfl (Or.inl rfl) (pe_lst pa_nil)) (pss_cons (ps_for PassesOwn.never rfl (pi_list (pe_ix ix_tup (pv 0) pe_int (fun _ _ => rfl))) (pg_name (i := 2) sc_paper_names.nd rfl (Or.inl rfl)) (pss_one (ps_expr (pe_bm PySem.F.plainAttrs_list PySem.F.slot_list_extend PySem.F.type_list_extend mt_extend (pv 1) (pa_cons (pe_def (G_paper_names.mono (by first | decide | (clear hd hk; omega))) hr (pa_cons (pv 2) pa_nil)) pa_nil))))) (pss_one (ps_ret (pv 1)))))), ?_⟩
  cases hv with
  | @inn b k hb =>
    have hT : SqT K H b [.str "in", .int k] := SqT.of hb
    walk_at "wp"
    refine ⟨_, _, _, .str "in", rfl, rfl, hT, rfl, rfl, ?_⟩
    walk_at "wp"
    refine ⟨_, _, _, .int k, rfl, rfl, hT, rfl, fun D hD => ?_⟩
    exact q D _ (same_new hD _) hD upd_same
  | @par b l bb ys ps hb hl _ lz hs =>
    have hT : SqT K H b [.str "parted", .int bb, .ref l] := SqT.of hb
    simp only [Pap.dep] at hd
    simp only [Pap.kn] at hk
    have hlen := hs.len
    walk_at "wp"
    refine ⟨_, _, _, .str "parted", rfl, rfl, hT, rfl, rfl, ?_⟩
    walk_at "wp"
    refine ⟨fun c => absurd c (by decide), fun _ D hD => ?_⟩
    have g0 := same_new hD (.lst [])
    refine ⟨_, _, _, .ref l, rfl, rfl, Same.seqT g0 hT, rfl, ?_⟩
    refine ⟨_, rfl, ⟨_, SqL.of (g0 _ _ hl)⟩, ?_⟩
    obtain ⟨W, hW⟩ : ∃ W : Nat → St → Hp → Prop, W = fun i σ H' => ∃ o : Option V, σ = [some (.ref b), some (.ref D), o] ∧ Same H H' ∧ H' D = some (IL (Pap.nms (ps.take i))) := ⟨_, rfl⟩
    refine forW_list (xs := ys) W ?_ (fun i σ H' _ z => ?_) (fun i x σ H' hx z => ?_) (fun σ H' z => ?_)
    · rw [hW]
      exact ⟨none, rfl, g0, upd_same⟩
    · rw [hW] at z
      refine L2.put_away fun G'502 h'502 => ?_
      obtain ⟨_, _, g, _⟩ := z
      refine h'502 ?_
      exact SqL.of (g _ _ hl)
    · rw [hW] at z
      refine L2.put_away fun G'505 h'505 => ?_
      obtain ⟨o, rfl, g, hD2⟩ := z
      refine h'505 ?_
      refine L2.put_away fun G'506 h'506 => ?_
      obtain ⟨p, e1, hp⟩ := hs.at hx
      refine h'506 ?_
      have m1 := Pap.dep_mem (List.mem_of_getElem? e1)
      have m2 := Pap.kn_mem (List.mem_of_getElem? e1)
      walk_at "wp"
      refine ⟨.inl ⟨rfl, _, SqL.of hD2⟩, x, p, rfl, hp.mono g, by (clear lz hk hlen hW hx h'505 h'506 e1 m2; omega), by (clear lz hd hlen hW hx h'505 h'506 e1 m1; omega), fun E2 H3 g3 nE hE => ?_⟩
      have hD3 := g3 _ _ hD2
      have l1 := Pap.nms_len (ps.take i)
      have l2 := p.nm_len
      have l3 := Pap.kns_take e1
      have l4 : Pap.kns (ps.take (i + 1)) ≤ Pap.kns ps := by
        have := Pap.kns_append (ps.take (i + 1)) (ps.drop (i + 1))
        rw [List.take_append_drop] at this
        (clear lz hd hk hlen hW hx h'505 h'506 e1 m1 m2 l1 l2 l3; omega)
      refine ⟨_, _, _, _, rfl, rfl, hD3, hE, by rw [List.length_map, List.length_map, sizeLine_eq]; (clear lz hd hlen hW hx h'505 h'506 e1 m1 m2; omega), ?_⟩
      rw [hW]
      refine ⟨_, rfl, (g.trans g3).write hD _, ?_⟩
      rw [upd_same, Pap.nms_take e1]
      simp
    · rw [hW] at z
      refine L2.put_away fun G'525 h'525 => ?_
      obtain ⟨o, rfl, g, hD2⟩ := z
      refine h'525 ?_
      rw [hlen, List.take_length] at hD2
      walk_at "wp"
      exact q D H' g hD hD2

noncomputable def sp_cell_at (K : PySem.W.Frag) : Sp := fun vs H Q _ => ∃ (a : Addr) (ns : List Int) (k : Int), vs = [.ref a, .int k] ∧ SqL K H a (ns.map V.int) ∧ 0 ≤ k ∧ Q (.int (ns.getD k.toNat 0)) H
theorem h_law_cell_at (T : TF K mg "_law_cell_at" s_law_cell_at) (m_len : mg "len" = none) : Has P w K mg base 1 "_law_cell_at" ["script", "k"] (sp_cell_at K) := by
  refine T.has sc_law_cell_at (fun _ _ _ _ _ _ => L2.bnd2 fun _ _ => rfl) (fun vs H Q E h => ?_) (fun f cdv A outer s H vs Q E hr h => ?_)
  · refine L2.put_away fun G'533 h'533 => ?_
    obtain ⟨a, ns, k, rfl, _⟩ := h
    refine h'533 ?_
    rfl
  refine L2.put_away fun G'535 h'535 => ?_
  obtain ⟨a, ns, k, rfl, hS, hk, q⟩ := h
  refine h'535 ?_
  refine ⟨_, (pss_cons (ps_if (pt_cmpR op_lt (pv 1) (pe_callB call_len_seq rfl m_len PySem.boot_len (pa_cons (pv 0) pa_nil)) (nomark _)) (pss_one (ps_ret (pe_ix ix_list (pv 0) (pv 1) (fun _ _ => rfl)))) pss_nil) (pss_one (ps_ret pe_int))), ?_⟩
  walk_at "wp"
  refine ⟨a, _, rfl, .inl hS, ?_⟩
  walk_at "wp"
  refine ⟨fun c => ?_, fun c => ?_⟩
  · rw [List.length_map] at c
    exact rIxL_mk hS (atI_getD hk c) q
  · rw [List.length_map] at c
    have e : ns.getD k.toNat 0 = 0 := by
      rw [List.getD_eq_getElem?_getD, List.getElem?_eq_none (by (clear hk; omega))]
      rfl
    rw [e] at q
    exact q

noncomputable def sp_whole : Sp := fun vs H Q _ => (∃ n : Int, vs = [.int n] ∧ Q (.bl true) H) ∨ vs = [.non] ∧ Q (.bl false) H
theorem h_law_whole (T : TF K mg "_law_whole" s_law_whole) (m_isinstance : mg "isinstance" = none) (m_int : mg "int" = none) (m_bool : mg "bool" = none) : Has P w K mg base 1 "_law_whole" ["found"] sp_whole := by
  refine T.has sc_law_whole (fun _ _ _ _ _ _ => L2.bnd1 fun _ => rfl) (fun vs H Q E h => ?_) (fun f cdv A outer s H vs Q E hr h => ?_)
  · rcases h with ⟨n, rfl, _⟩ | ⟨rfl, _⟩ <;> rfl
  refine ⟨_, (pss_one (ps_ret (pe_and (pe_callB call_isI rfl m_isinstance (by decide +kernel) (pa_cons (pv 0) (pa_cons (pe_bltn (v := .ty "int") rfl m_int (by decide +kernel) rfl) pa_nil))) (pe_one (pe_not (pe_callB call_isI rfl m_isinstance (by decide +kernel) (pa_cons (pv 0) (pa_cons (pe_bltn (v := .ty "bool") rfl m_bool (by decide +kernel) rfl) pa_nil)))))))), ?_⟩
  rcases h with ⟨n, rfl, q⟩ | ⟨rfl, q⟩
  · walk_at "wp"
    exact q
  · walk_at "wp"
    exact q

noncomputable def sp_big : Sp := fun vs H Q _ => ∃ c : Int, vs = [.int c] ∧ Builtin.Int.intBits c ≤ 2 ^ 21 ∧ ∀ d : Int, 0 ≤ d → d < 10 ^ 60 → Q (.int d) H
theorem h_law_big (T : TF K mg "_law_big" s_law_big) : Has P w K mg base 1 "_law_big" ["cell"] sp_big := by
  refine T.has sc_law_big (fun _ _ _ _ _ _ => L2.bnd1 fun _ => rfl) (fun vs H Q E h => ?_) (fun f cdv A outer s H vs Q E hr h => ?_)
  · refine L2.put_away fun G'564 h'564 => ?_
    obtain ⟨c, rfl, _⟩ := h
    refine h'564 ?_
    rfl
  refine L2.put_away fun G'566 h'566 => ?_
  obtain ⟨c, rfl, hc, q⟩ := h
  refine h'566 ?_
  refine ⟨_, (pss_one (ps_ret (pe_op op_mod (pe_op op_mulA (pv 0) pe_int) (pe_op op_pow pe_int pe_int)))), ?_⟩
  walk_at "wp"
  have z0 := modB (c * 618033988749894848204586834365638117720309179805762862123) (show (0 : Int) < 10 ^ 60 by decide)
  exact ⟨IntMulOk.of_le hc (intBits_le_iff.mpr (show (618033988749894848204586834365638117720309179805762862123 : Int).natAbs < 2 ^ 200 by decide)) (by decide), ⟨by decide, by decide, by decide⟩, by decide, q _ z0.1 z0.2⟩

noncomputable def sp_law_divisor : Sp := fun vs H Q _ => ∃ a b : Int, vs = [.int a, .int b] ∧ 0 ≤ a ∧ 0 ≤ b ∧ Q (.int (gcdI a b)) H
theorem h_law_divisor (T : TF K mg "_law_divisor" s_law_divisor) : Has P w K mg base 1 "_law_divisor" ["one", "other"] sp_law_divisor := by
  refine T.has sc_law_divisor (fun _ _ _ _ _ _ => L2.bnd2 fun _ _ => rfl) (fun vs H Q E h => ?_) (fun f cdv A outer s H vs Q E hr h => ?_)
  · refine L2.put_away fun G'575 h'575 => ?_
    obtain ⟨a, b, rfl, _⟩ := h
    refine h'575 ?_
    rfl
  refine L2.put_away fun G'577 h'577 => ?_
  obtain ⟨a, b, rfl, ha, hb, q⟩ := h
  refine h'577 ?_
  refine ⟨_, (pss_cons (ps_while PassesOwn.never (pt_cmpR op_ne (pv 1) pe_int (nomark _)) (pss_one (ps_par (i := 0) (j := 1) rfl sc_law_divisor.nd rfl rfl (by decide) rfl rfl (pa_cons (pv 1) (pa_cons (pe_op op_mod (pv 0) (pv 1)) pa_nil)) rfl))) (pss_one (ps_ret (pv 0)))), ?_⟩
  walk_at "wp"
  obtain ⟨W, hW⟩ : ∃ W : Nat → St → Hp → Prop, W = fun m σ H' => ∃ (x y : Int), σ = [some (.int x), some (.int y)] ∧ H' = H ∧ 0 ≤ x ∧ 0 ≤ y ∧ gcdI x y = gcdI a b ∧ m = y.toNat := ⟨_, rfl⟩
  refine ⟨W, ⟨b.toNat, by rw [hW]; exact ⟨a, b, rfl, rfl, ha, hb, rfl, rfl⟩⟩, fun m σ H' h => ?_⟩
  rw [hW] at h
  refine L2.put_away fun G'583 h'583 => ?_
  obtain ⟨x, y, rfl, rfl, hx, hy, e, rfl⟩ := h
  refine h'583 ?_
  walk_at "wp"
  refine ⟨fun c => ?_, fun c => ?_⟩
  · have m1 := Int.emod_nonneg x c
    have m2 := Int.emod_lt_of_pos x (show 0 < y by (clear ha hb hW hx e h'583 m1; omega))
    refine ⟨_, fun _ _ h => h, ?_⟩
    walk_at "wp"
    refine ⟨by (clear ha hb hW hx e h'583 c hy; omega), (x % y).toNat, by (clear ha hb hW hx e h'583 c hy; omega), ?_⟩
    rw [hW]
    exact ⟨y, x % y, rfl, rfl, hy, m1, by rw [gcdI_step, e], rfl⟩
  · have c' : y = 0 := by (clear ha hb hW hx hy e h'583; omega)
    subst c'
    rw [gcdI_zero hx] at e
    rw [e]
    exact q

noncomputable def prd (ws us : List T3) (k : Int) : Int := lcms [(ws.getD (k / (us.length : Int)).toNat (1, 0, 1)).1, (us.getD (k % (us.length : Int)).toNat (1, 0, 1)).1]
noncomputable def IsMx (f : Int → Int) (ns : List Int) (M : Int) : Prop := (∃ k ∈ ns, M = f k) ∧ ∀ k ∈ ns, f k ≤ M
theorem IsMx.uniq {f : Int → Int} {ns : List Int} {M N : Int} (h : IsMx f ns M) (k : IsMx f ns N) : M = N := by
  refine L2.put_away fun G'603 h'603 => ?_
  obtain ⟨⟨a, ha, rfl⟩, h2⟩ := h
  refine h'603 ?_
  refine L2.put_away fun G'604 h'604 => ?_
  obtain ⟨⟨b, hb, rfl⟩, k2⟩ := k
  refine h'604 ?_
  have := h2 b hb
  have := k2 a ha
  (clear h2 h'603 h'604 k2; omega)
mutual
theorem rightB_nm {ws : List T3} : ∀ {s r : Int} {p : Pap}, rightB ws s r p = true → (∀ k ∈ p.nm, 0 ≤ k ∧ k < ws.length) ∧ p.nm ≠ []
  | s, r, .inn k, h => by
    simp only [rightB, Bool.and_eq_true, decide_eq_true_eq] at h
    refine ⟨fun j hj => ?_, by simp [Pap.nm]⟩
    rw [show j = k from List.mem_singleton.mp hj]
    exact ⟨h.1, h.2.1⟩
  | s, r, .par b ps, h => by
    simp only [rightB, Bool.and_eq_true, decide_eq_true_eq] at h
    exact rightsB_nm h.2.2 (fun e => by rw [e] at h; simp at h; omega)
theorem rightsB_nm {ws : List T3} : ∀ {s r b : Int} {c : Nat} {ps : List Pap}, rightsB ws s r b c ps = true → ps ≠ [] → (∀ k ∈ Pap.nms ps, 0 ≤ k ∧ k < ws.length) ∧ Pap.nms ps ≠ []
  | s, r, b, c, [], h, ne => absurd rfl ne
  | s, r, b, c, p :: ps, h, ne => by
    simp only [rightsB, Bool.and_eq_true] at h
    have h1 := rightB_nm h.1
    refine ⟨fun k hk => ?_, by simp [Pap.nms, h1.2]⟩
    rcases List.mem_append.mp hk with z | z
    · exact h1.1 k z
    · by_cases e : ps = []
      · rw [e] at z
        exact nomatch z
      · exact (rightsB_nm h.2 e).1 k z
end
noncomputable def sp_pair_of (K : PySem.W.Frag) : Sp := fun vs H Q _ => ∃ (v : V) (b : Addr) (ys : List V) (k : Int), vs = [v, .ref b, .int k] ∧ SqL K H b ys ∧ 0 < ys.length ∧ ys.length ≤ 1000 ∧ ∀ D, H D = none → Q (.ref D) (upd H D (.tup [.int (k / ys.length), .int (k % ys.length)]))
theorem h_pair_of (T : TF K mg "pair_of" s_pair_of) (m_len : mg "len" = none) : Has P w K mg base 1 "pair_of" ["one", "other", "k"] (sp_pair_of K) := by
  refine T.has sc_pair_of (fun _ _ _ _ _ _ => L2.bnd3 fun _ _ _ => rfl) (fun vs H Q E h => ?_) (fun f cdv A outer s H vs Q E hr h => ?_)
  · refine L2.put_away fun G'634 h'634 => ?_
    obtain ⟨v, b, ys, k, rfl, _⟩ := h
    refine h'634 ?_
    rfl
  refine L2.put_away fun G'636 h'636 => ?_
  obtain ⟨v, b, ys, k, rfl, hS, l0, l1, q⟩ := h
  refine h'636 ?_
  refine ⟨_, (pss_one (ps_ret (pe_tup (pa_cons (pe_op op_fdivA (pv 2) (pe_callB call_len_seq rfl m_len PySem.boot_len (pa_cons (pv 1) pa_nil))) (pa_cons (pe_op op_mod (pv 2) (pe_callB call_len_seq rfl m_len PySem.boot_len (pa_cons (pv 1) pa_nil))) pa_nil))))), ?_⟩
  walk_at "wp"
  refine ⟨_, _, rfl, .inl hS, divA 20 (by (clear q l1; omega)) (by (clear q l0; omega)) (by decide), _, _, rfl, .inl hS, by (clear q l1; omega), q⟩
noncomputable def sp_pair_round (K : PySem.W.Frag) : Sp := fun vs H Q _ => ∃ (a b : Addr) (xs ys : List V) (ws us : List T3) (k : Int), vs = [.ref a, .ref b, .int k] ∧ SqL K H a xs ∧ Pl H xs ws ∧ SqL K H b ys ∧ Pl H ys us ∧ (∀ u ∈ ws, 1 ≤ u.1 ∧ u.1 ≤ 2 ^ 1000) ∧ (∀ u ∈ us, 1 ≤ u.1 ∧ u.1 ≤ 2 ^ 1000) ∧ us.length ≤ 1000 ∧ 0 ≤ k ∧ k < ws.length * us.length ∧ ∀ H', Same H H' → Q (.int (prd ws us k)) H'
theorem h_pair_round (T : TF K mg "pair_round" s_pair_round) (G_pair_of : Has P w K mg base 1 "pair_of" ["one", "other", "k"] (sp_pair_of K)) (G_least_round : Has P w K mg base 2 "least_round" ["numbers"] (sp_least_round K)) : Has P w K mg base 3 "pair_round" ["one", "other", "k"] (sp_pair_round K) := by
  refine T.has sc_pair_round (fun _ _ _ _ _ _ => L2.bnd3 fun _ _ _ => rfl) (fun vs H Q E h => ?_) (fun f cdv A outer s H vs Q E hr h => ?_)
  · refine L2.put_away fun G'643 h'643 => ?_
    obtain ⟨a, b, xs, ys, ws, us, k, rfl, _⟩ := h
    refine h'643 ?_
    rfl
  refine L2.put_away fun G'645 h'645 => ?_
  obtain ⟨a, b, xs, ys, ws, us, k, rfl, hS, hP, hS2, hP2, hw, hu, lu, k0, k1, q⟩ := h
  refine h'645 ?_
  refine ⟨_, (pss_cons (ps_set (i := 3) sc_pair_round.nd rfl (Or.inl rfl) (pe_def (G_pair_of.mono (by first | decide | omega)) hr (pa_cons (pv 0) (pa_cons (pv 1) (pa_cons (pv 2) pa_nil))))) (pss_one (ps_ret (pe_def (G_least_round.mono (by first | decide | omega)) hr (pa_cons (pe_lst (pa_cons (pe_ix ix_tup (pe_ix ix_list (pv 0) (pe_ix ix_tup (pv 3) pe_int (fun _ _ => rfl)) (fun _ _ => rfl)) pe_int (fun _ _ => rfl)) (pa_cons (pe_ix ix_tup (pe_ix ix_list (pv 1) (pe_ix ix_tup (pv 3) pe_int (fun _ _ => rfl)) (fun _ _ => rfl)) pe_int (fun _ _ => rfl)) pa_nil))) pa_nil))))), ?_⟩
  have ul : 0 < us.length := by
    rcases Nat.eq_zero_or_pos us.length with z | z
    · rw [z] at k1
      simp at k1
      (clear hw hu lu z; omega)
    · exact z
  walk_at "wp"
  have ly := hP2.1
  refine ⟨_, b, ys, k, rfl, hS2, by (clear hw hu k0 k1 lu; omega), by (clear hw hu k0 k1 ul; omega), fun D nD => ?_⟩
  rw [ly]
  have g1 := same_new nD (.tup [.int (k / us.length), .int (k % us.length)])
  have hD := upd_same (H := H) (a := D) (o := .tup [.int (k / us.length), .int (k % us.length)])
  generalize upd H D (.tup [.int (k / us.length), .int (k % us.length)]) = H1 at g1 hD ⊢
  have q0 : 0 ≤ k / (us.length : Int) := Int.ediv_nonneg k0 (by (clear hw hu k0 k1 hD ly ul lu; omega))
  have q1 : k / (us.length : Int) < ws.length := Int.ediv_lt_of_lt_mul (by (clear hw hu k0 k1 hD q0 ly lu; omega)) k1
  have r0 := Int.emod_nonneg k (show (us.length : Int) ≠ 0 by (clear hw hu k0 k1 hD q0 q1 ly lu; omega))
  have r1 := Int.emod_lt_of_pos k (show (0 : Int) < us.length by (clear hw hu k0 k1 hD q0 q1 r0 ly lu; omega))
  refine L2.put_away fun G'664 h'664 => ?_
  obtain ⟨p1, t1, e1, f1, m1, z1⟩ := (hP.same g1).ix q0 q1
  refine h'664 ?_
  refine L2.put_away fun G'665 h'665 => ?_
  obtain ⟨p2, t2, e2, f2, m2, z2⟩ := (hP2.same g1).ix r0 r1
  refine h'665 ?_
  refine ⟨D, _, _, _, rfl, rfl, SqT.of hD, atI_nat (j := 0) rfl, rIxL_mk (g1.seq hS) e1 ⟨p1, _, _, _, rfl, rfl, SqT.of z1, atI_nat (j := 0) rfl, D, _, _, _, rfl, rfl, SqT.of hD, atI_nat (j := 1) rfl, rIxL_mk (g1.seq hS2) e2 ⟨p2, _, _, _, rfl, rfl, SqT.of z2, atI_nat (j := 0) rfl, fun L nL => ?_⟩⟩⟩
  refine ⟨L, [t1.1, t2.1], rfl, SqL.of upd_same, by simp, fun z hz => ?_, ?_⟩
  · simp only [List.mem_cons, List.not_mem_nil, or_false] at hz
    rcases hz with rfl | rfl
    · exact hw t1 m1
    · exact hu t2 m2
  · have := q _ (g1.trans (same_new nL (.lst [.int t1.1, .int t2.1])))
    unfold prd at this
    rw [List.getD_eq_getElem?_getD, f1, List.getD_eq_getElem?_getD, f2] at this
    exact this
noncomputable def sp_paper_wait (K : PySem.W.Frag) (d : Nat) : Sp := fun vs H Q _ => ∃ (a b : Addr) (v : V) (xs ys : List V) (ws us : List T3) (p : Pap), vs = [.ref a, .ref b, v] ∧ SqL K H a xs ∧ Pl H xs ws ∧ SqL K H b ys ∧ Pl H ys us ∧ (∀ u ∈ ws, Wk u ∧ u.1 ≤ 2 ^ 1000) ∧ (∀ u ∈ us, Wk u ∧ u.1 ≤ 2 ^ 1000) ∧ ws.length ≤ 100 ∧ us.length ≤ 100 ∧ PapIn K anyL H v p ∧ p.dep < d ∧ p.kn < 64 ∧ rightB (shs ws us) 1 0 p = true ∧ ∀ M H', Same H H' → IsMx (prd ws us) p.nm M → Q (.int M) H'
noncomputable def sp_paper_waitX (K : PySem.W.Frag) (C : Addr) (d : Nat) : Sp := fun vs H _ E => ∃ (a b : Addr) (v : V) (xs ys : List V) (ws us : List T3) (p : Pap), vs = [.ref a, .ref b, v] ∧ SqL K H a xs ∧ Pl H xs ws ∧ SqL K H b ys ∧ Pl H ys us ∧ (∀ u ∈ ws, Wk u) ∧ (∀ u ∈ us, Wk u) ∧ ws.length ≤ 100 ∧ us.length ≤ 100 ∧ PapIn K anyL H v p ∧ p.dep < d ∧ rightB (shs ws us) 1 0 p = false ∧ ∀ x H', Same H H' → H' x = none → E (.ref C) (some x) H'
theorem shs_at : ∀ {ws us : List T3} {k : Nat}, k < ws.length * us.length → (shs ws us).getD k (1, 0, 1) = sh2 (ws.getD (k / us.length) (1, 0, 1)) (us.getD (k % us.length) (1, 0, 1))
  | [], us, k, h => by simp at h
  | u :: ws, us, k, h => by
    have e : shs (u :: ws) us = us.map (sh2 u) ++ shs ws us := by simp [shs]
    rw [List.length_cons, Nat.succ_mul] at h
    have n0 : 0 < us.length := by
      rcases Nat.eq_zero_or_pos us.length with z | z
      · rw [z] at h
        simp at h
      · exact z
    rw [e, List.getD_eq_getElem?_getD]
    by_cases hk : k < us.length
    · rw [List.getElem?_append_left (by simpa using hk), Nat.div_eq_of_lt hk, Nat.mod_eq_of_lt hk, List.getElem?_map, List.getElem?_eq_getElem hk]
      simp [List.getD_eq_getElem?_getD, List.getElem?_eq_getElem hk]
    · have ih := shs_at (ws := ws) (us := us) (k := k - us.length) (by (clear n0; omega))
      rw [List.getElem?_append_right (by simp; (clear h n0 ih; omega)), List.length_map]
      rw [List.getD_eq_getElem?_getD] at ih
      rw [ih]
      have ek : k = (k - us.length) + us.length := by (clear h n0 ih; omega)
      have e1 : k / us.length = (k - us.length) / us.length + 1 := by
        conv => lhs; rw [ek]
        rw [Nat.add_div_right _ n0]
      have e2 : k % us.length = (k - us.length) % us.length := by
        conv => lhs; rw [ek]
        rw [Nat.add_mod_right]
      rw [e1, e2, List.getD_cons_succ]
theorem kns_le {n : Nat} : ∀ {ps : List Pap}, (∀ p ∈ ps, p.kn ≤ n) → Pap.kns ps ≤ ps.length * n
  | [], _ => by simp [Pap.kns]
  | p :: ps, h => by
    have h1 := h p (by simp)
    have h2 := kns_le fun q hq => h q (List.mem_cons_of_mem _ hq)
    rw [List.length_cons, Nat.succ_mul]
    simp only [Pap.kns]
    (clear h; omega)
noncomputable def Full (ws : List T3) (k : Int) : Prop := 0 ≤ k ∧ k < ws.length ∧ 1 ≤ (ws.getD k.toNat (1, 0, 1)).1 ∧ (ws.getD k.toNat (1, 0, 1)).2.2 = (ws.getD k.toNat (1, 0, 1)).1
noncomputable def Good (p : Pap) : Prop := ∀ (ws : List T3) (s r : Int), 1 ≤ s → (∀ k ∈ p.nm, Full ws k) → rightB ws s r p = true
theorem good_inn (k : Int) : Good (.inn k) := fun ws s r s1 h => by
  refine L2.put_away fun G'796 h'796 => ?_
  obtain ⟨h0, h1, h2, h3⟩ := h k (by simp [Pap.nm])
  refine h'796 ?_
  unfold rightB liesB
  rw [decide_eq_true h0, decide_eq_true h1, h3]
  have gp := gcdI_pos (a := s) (b := (ws.getD k.toNat (1, 0, 1)).1) (by (clear h h0 h1 h2 h3; omega))
  have := Int.emod_nonneg (r - (ws.getD k.toNat (1, 0, 1)).2.1 - (ws.getD k.toNat (1, 0, 1)).1) (show gcdI s (ws.getD k.toNat (1, 0, 1)).1 ≠ 0 by (clear s1 h h0 h1 h2 h3; omega))
  rw [decide_eq_true (by (clear s1 h h0 h1 h2 h3 gp; omega))]
  rfl
theorem goods {ws : List T3} {s r b : Int} (s1 : 1 ≤ s) (b1 : 1 ≤ b) : ∀ {ps : List Pap} (c : Nat), (∀ p ∈ ps, Good p) → (∀ k ∈ Pap.nms ps, Full ws k) → rightsB ws s r b c ps = true
  | [], c, _, _ => by unfold rightsB; rfl
  | p :: ps, c, hg, hn => by
    unfold rightsB
    have sp : 1 ≤ s * b := by
      have := Int.mul_le_mul s1 b1 (by decide) (by (clear b1 hn; omega))
      (clear s1 b1 hn; omega)
    rw [hg p (by simp) ws (s * b) (r + s * c) sp fun k hk => hn k (by simp [Pap.nms, hk]), goods s1 b1 (c + 1) (fun q hq => hg q (List.mem_cons_of_mem _ hq)) fun k hk => hn k (by simp [Pap.nms, hk])]
    rfl
theorem good_par {b : Int} {ps : List Pap} (b2 : 2 ≤ b) (hl : (ps.length : Int) = b) (h : ∀ p ∈ ps, Good p) : Good (.par b ps) := fun ws s r s1 hn => by
  unfold rightB
  rw [decide_eq_true b2, decide_eq_true hl, goods s1 (by (clear s1 hn hl; omega)) 0 h hn]
  rfl
theorem prd_eq {a b : Int} (ha : 1 ≤ a) (hb : 1 ≤ b) : a / gcdI a b * b = lcms [a, b] := by
  have e : lcms [a, b] = lcmI a b := by
    unfold lcms
    simp only [List.foldl]
    have : lcmI 1 a = a := by
      unfold lcmI
      rw [gcdI_one, Int.ediv_one, Int.one_mul]
    rw [this]
  rw [e, ← lcmI_alt, Int.mul_comm a b, Int.mul_ediv_assoc b (gcdI_dvd_left a b), Int.mul_comm]
noncomputable def Waits (hs : List Hd) (ps : List Pap) (Ms : List Int) : Prop := Ms.length = ps.length ∧ ∀ (i : Nat) (h g : Hd) (p : Pap) (M : Int), hs[i]? = some h → hs[i + 1]? = some g → ps[i]? = some p → Ms[i]? = some M → IsMx (prd h.1 g.1) p.nm M
theorem Waits.uniq {hs : List Hd} {ps : List Pap} {Ms Ns : List Int} (hl : hs.length = ps.length + 1) (a : Waits hs ps Ms) (b : Waits hs ps Ns) : Ms = Ns := by
  refine List.ext_getElem? fun i => ?_
  have la := a.1
  have lb := b.1
  by_cases c : i < ps.length
  · have e1 : Ms[i]? = some (Ms[i]'(by (clear hl lb; omega))) := List.getElem?_eq_getElem (by (clear hl lb; omega))
    have e2 : Ns[i]? = some (Ns[i]'(by (clear hl e1; omega))) := List.getElem?_eq_getElem (by (clear hl e1; omega))
    have e3 : hs[i]? = some (hs[i]'(by (clear e1 e2; omega))) := List.getElem?_eq_getElem (by (clear e1 e2; omega))
    have e4 : hs[i + 1]? = some (hs[i + 1]'(by (clear e1 e2 e3; omega))) := List.getElem?_eq_getElem (by (clear e1 e2 e3; omega))
    have e5 : ps[i]? = some (ps[i]'c) := List.getElem?_eq_getElem c
    rw [e1, e2, (a.2 i _ _ _ _ e3 e4 e5 e1).uniq (b.2 i _ _ _ _ e3 e4 e5 e2)]
  · rw [List.getElem?_eq_none (by (clear hl lb; omega)), List.getElem?_eq_none (by (clear hl la; omega))]
noncomputable def RightAll (d : Nat) (hs : List Hd) (ps : List Pap) : Prop := ∀ (i : Nat) (h g : Hd) (p : Pap), hs[i]? = some h → hs[i + 1]? = some g → ps[i]? = some p → rightB (shs h.1 g.1) 1 0 p = true ∧ p.dep < d ∧ p.kn < 64
noncomputable def sp_waits (K : PySem.W.Frag) (d : Nat) : Sp := fun vs H Q _ => ∃ (a b : Addr) (xs ys : List V) (hs : List Hd) (ps : List Pap), vs = [.ref a, .ref b] ∧ H a = some (.lst xs) ∧ Hds H xs hs ∧ H b = some (.lst ys) ∧ PapsIn K anyL H ys ps ∧ hs.length = ps.length + 1 ∧ hs.length ≤ 50 ∧ (∀ h ∈ hs, h.1.length ≤ 50 ∧ ∀ u ∈ h.1, Wk u ∧ u.1 ≤ 2 ^ 1000) ∧ RightAll d hs ps ∧
  ∀ (Ms : List Int) (H' : Hp), Same H H' → Waits hs ps Ms → Q (.int Ms.sum) H'
noncomputable def HasL (P : Program) (w : World) (K : PySem.W.Frag) (mg : Str → Option Value) (base : Heap) (k : Nat) (x : Str) (ps : List Str) (sp : Sp) : Prop :=
  ∃ f fd, FnOk P w K mg base (CXx P w) k f fd ps sp ∧ (∀ us : List Value, us.length = ps.length → bindArgs fd ⟨us, []⟩ = pure (ps.zip us)) ∧ PySem.W.keepIn K (.ref f) = true ∧ mg x = some (.ref f) ∧ ∃ oc od osl, K.lookup f = some ⟨oc, od, .func fd, osl⟩
theorem tf_hasL {x : Str} {st : Stmt} {N ps : List Str} {k : Nat} {sp : Sp} (T : TF K mg x st) (S : FnScope N ps (defScope st))
    (hb : ∀ (kV doc pm : Value) (an : Option Addr) (cdv ct : Value) (us : List Value), us.length = ps.length → bindArgs (PySem.W.fnOf x x (defArgs st) (defBody st) (defScope st) .none kV doc pm an cdv ct) ⟨us, []⟩ = pure (ps.zip us))
    (len : ∀ vs H Q E, sp vs H Q E → vs.length = ps.length)
    (hbody : ∀ (f : Addr) (cdv : Value) (A : Around) (outer : List Env) (s : Shared) (H : Hp) (vs : List V) (Q : VK) (E : XK), Room k (A.deeper (PyProof.Rows.envOfC x (defScope st) s.heap.objs.size f cdv)) → sp vs H Q E →
      ∃ t, PSs (cxOf (CXx P w) P w K mg base N x (defScope st) f cdv A outer s H E) (defBody st) t ∧ t { nx := fun _ H' => Q .non H', rt := Q } (L2.start N vs) H) : HasL P w K mg base (k + 1) x ps sp := by
  refine L2.put_away fun G'937 h'937 => ?_
  obtain ⟨f, fd, F, m⟩ := T
  refine h'937 ?_
  refine L2.put_away fun G'938 h'938 => ?_
  obtain ⟨oc, od, kV, doc, pm, an, cdv, ct, osl, rfl, lk, hcd⟩ := F.ex
  refine h'938 ?_
  exact ⟨f, _, fn_of lk hcd S len fun A outer s H vs Q E hr hsp => hbody f cdv A outer s H vs Q E hr hsp, hb kV doc pm an cdv ct, F.kp, m, oc, od, osl, lk⟩
theorem hasL_x {k : Nat} {x : Str} {ps : List Str} {sp : Sp} (h : HasL P w K mg base k x ps sp) : HasX P w K mg base k x ps sp :=
  let ⟨f, fd, F, hb, hk, hm, _⟩ := h
  ⟨f, fd, F, hb, hk, hm⟩
theorem hasL_quiet {k : Nat} {x : Str} {ps : List Str} {sp sp' : Sp} (h : HasL P w K mg base k x ps sp) (i : ∀ vs H Q E, sp' vs H Q E → sp vs H Q fun _ _ _ => False) : Has P w K mg base k x ps sp' := by
  refine L2.put_away fun G'944 h'944 => ?_
  obtain ⟨f, fd, F, hb, hk, hm, hl⟩ := h
  refine h'944 ?_
  refine ⟨f, fd, ⟨fun vs H Q E z => F.len vs H Q _ (i vs H Q E z), fun A outer s H args us vs Q E hr e0 hbt hv z => PySem.codeAny_mono (F.run A outer s H args us vs Q _ hr e0 hbt hv (i vs H Q E z)) fun r s' hq => ?_⟩, hb, hk, hm, hl⟩
  cases r with
  | error e =>
    refine L2.put_away fun G'948 h'948 => ?_
    obtain ⟨_, _, _, _, _, _, _, _, _, z⟩ := hq
    refine h'948 ?_
    exact z.elim
  | ok fl => cases fl <;> exact hq

noncomputable def sp_waitB (K : PySem.W.Frag) (C : Addr) (d : Nat) : Sp := fun vs H Q E => sp_paper_wait K d vs H Q E ∨ sp_paper_waitX K C d vs H Q E
theorem h_paper_waitB {d : Nat} {c_NoPaper : Addr} {bm : List Value} (T : TF K mg "paper_wait" s_paper_wait) (m_max : mg "max" = none) (m_set : mg "set" = none) (m_sorted : mg "sorted" = none) (O_NoPaper : OX K mg "NoPaper" c_NoPaper bm) (G_lets_meet : Has P w K mg base (d + 5) "lets_meet" ["one", "other", "paper"] (sp_lets_meet K d)) (G_paper_names : Has P w K mg base (d + 1) "paper_names" ["paper"] (sp_names K d)) (G_pair_round : Has P w K mg base 3 "pair_round" ["one", "other", "k"] (sp_pair_round K)) : HasL P w K mg base (d + 6) "paper_wait" ["one", "other", "paper"] (sp_waitB K c_NoPaper d) := by
  refine tf_hasL T sc_paper_wait (fun _ _ _ _ _ _ => L2.bnd3 fun _ _ _ => rfl) (fun vs H Q E h => ?_) (fun f cdv A outer s H vs Q E hr h => ?_)
  · rcases h with ⟨a, b, v, xs, ys, ws, us, p, rfl, _⟩ | ⟨a, b, v, xs, ys, ws, us, p, rfl, _⟩ <;> rfl
  rcases h with h | h
  · refine L2.put_away fun G'958 h'958 => ?_
    obtain ⟨a, b, v, xs, ys, ws, us, p, rfl, hS, hP, hS2, hP2, hw, hu, lw, lu, hv, hd, hk, hr2, q⟩ := h
    refine h'958 ?_
    refine ⟨_, (pss_cons (ps_if (pt_not (pt_val (pe_def (G_lets_meet.mono (by first | decide | (clear hw hu lw lu hd hk hr2 q; omega))) hr (pa_cons (pv 0) (pa_cons (pv 1) (pa_cons (pv 2) pa_nil)))) (fun _ => rfl))) (pss_one (ps_raise O_NoPaper rfl throwX (pa_cons pe_str pa_nil))) pss_nil) (pss_one (ps_ret (pe_callB (call_maxI rfl) rfl m_max (by decide +kernel) (pa_cons (pe_comp (CompSc.capt (own := ["k"]) (capt := ["other", "one"]) (fr := [1, 0]) rfl ⟨rfl, rfl, rfl, rfl, rfl, ⟨rfl, rfl, rfl, rfl, rfl, trivial⟩⟩ (by decide +kernel) (by decide +kernel) rfl (by decide +kernel)) rfl (pi_list (pe_callB (call_sortedI rfl) rfl m_sorted (by decide +kernel) (pa_cons (pe_callTy (call_setI rfl) rfl m_set (by decide +kernel) (pa_cons (pe_def (G_paper_names.mono (by first | decide | (clear hw hu lw lu hd hk hr2 q; omega))) hr (pa_cons (pv 2) pa_nil)) pa_nil)) pa_nil))) (fun _ _ _ => (pg_name (i := 0) (show (["k", "other", "one"] : List Str).Nodup from by decide +kernel) rfl (Or.inl rfl) (Or.inr rfl))) (fun _ _ _ => pts_nil) (fun _ _ _ => (pe_def (G_pair_round.mono (by first | decide | (clear hw hu lw lu hd hk hr2 q; omega))) hr (pa_cons (pv 2) (pa_cons (pv 1) (pa_cons (pv 0) pa_nil)))))) pa_nil))))), ?_⟩
    walk_at "wp"
    refine ⟨a, b, v, xs, ys, ws, us, p, rfl, hS, hP, hS2, hP2, fun u h => (hw u h).1, fun u h => (hu u h).1, lw, lu, hv, hd, fun H1 g1 => ?_⟩
    rw [hr2]
    walk_at "wp"
    refine ⟨v, p, rfl, hv.mono g1, hd, by (clear hw hu lw lu hd hr2 q; omega), fun L H2 g2 nL hL => ?_⟩
    have nl := p.nm_len
    have G2 := g1.trans g2
    refine ⟨L, p.nm, rfl, SqL.of hL, by (clear hw hu lw lu hd hr2 q; omega), fun S f1 n nS hn hf => ?_⟩
    generalize (cxOf (CXx P w) P w K mg base _ _ _ f cdv A outer s H E).prog = Pr
    generalize (cxOf (CXx P w) P w K mg base _ _ _ f cdv A outer s H E).w = Wo
    refine ⟨S, f1, n, rfl, upd_same, by (clear hw hu lw lu hd hr2 q hf; omega), fun D ns nD hl hm _ => ?_⟩
    have G3 := (G2.trans (same_new nS (setO Pr Wo S f1 n))).trans (same_new nD (.lst (ns.map V.int)))
    have hD := upd_same (H := upd H2 S (setO Pr Wo S f1 n)) (a := D) (o := .lst (ns.map V.int))
    generalize upd (upd H2 S (setO Pr Wo S f1 n)) D (.lst (ns.map V.int)) = H3 at G3 hD ⊢
    have rn := rightB_nm hr2
    rw [shs_len] at rn
    have hns : ∀ k, k ∈ ns ↔ k ∈ p.nm := fun k => (hm k).symm.trans (hf k)
    have nsl : ns.length ≤ 64 := by (clear hw hu lw lu hd hr2 q hf hm hD rn hns; omega)
    refine ⟨⟨_, SqL.of hD⟩, ?_⟩
    obtain ⟨Sv, hSv⟩ : ∃ Sv : St → Prop, Sv = fun σ => ∃ o1, σ = [o1, some (.ref b), some (.ref a)] := ⟨_, rfl⟩
    obtain ⟨Pv, hPv⟩ : ∃ Pv : Addr → Nat → List V → Hp → Prop, Pv = fun D2 i ys H4 => H3 D2 = none ∧ Same H3 H4 ∧ ys = ((ns.take i).map (prd ws us)).map V.int := ⟨_, rfl⟩
    refine compW_list (xs := ns.map V.int) Sv Pv (by rw [hSv]; exact ⟨none, rfl⟩) (fun D2 hD2 => ?_) (fun D2 i ys H4 hD2 h => ?_) (fun D2 i x ys σ H4 hx hi hs hD2 hy h => ?_) (fun D2 ys H4 hD2 h => ?_)
    · rw [hPv]
      exact ⟨hD2, same_new hD2 _, rfl⟩
    · rw [hPv] at h
      exact SqL.of (h.2.1 _ _ hD)
    · rw [hSv] at hs
      rw [hPv] at h
      obtain ⟨o1, rfl⟩ := hs
      refine L2.put_away fun G'989 h'989 => ?_
      obtain ⟨nD2, g, rfl⟩ := h
      refine h'989 ?_
      rw [List.getElem?_map] at hx
      refine L2.put_away fun G'991 h'991 => ?_
      obtain ⟨k, hn, rfl⟩ := Option.map_eq_some_iff.mp hx
      refine h'991 ?_
      rw [List.length_map] at hi
      have kb := rn.1 k ((hns k).mp (List.mem_of_getElem? hn))
      have G := G3.trans g
      walk_at "wp"
      refine ⟨a, b, xs, _, ws, us, k, rfl, G.seq hS, hP.same G, G.seq hS2, hP2.same G, fun u h => ⟨(hw u h).1.1, (hw u h).2⟩, fun u h => ⟨(hu u h).1.1, (hu u h).2⟩, by (clear hw hu lw hd hk hr2 q nl hf hl hm hD rn hns nsl hPv hi hD2 hy hn hx h'989 h'991 kb; omega), kb.1, by rw [← Int.natCast_mul]; exact kb.2, fun H5 g5 => ?_⟩
      have hD3 := g5 _ _ hD2
      refine CompP.mk hD3 hy (by rw [sizeLine_eq]; (clear hw hu lw lu hd hr2 q hf hm hD rn hns hPv hD2 hy hn hx h'989 h'991 kb hD3 nsl; omega)) (by rw [hSv]; exact ⟨_, rfl⟩) (by
        rw [hPv]
        refine ⟨nD2, (g.trans g5).write nD2 _, ?_⟩
        rw [List.take_add_one, hn]
        simp)
    · rw [hPv] at h
      refine L2.put_away fun G'1004 h'1004 => ?_
      obtain ⟨nD2, g, rfl⟩ := h
      refine h'1004 ?_
      rw [List.length_map, List.take_length] at hD2
      have nne : ns ≠ [] := fun e => by
        obtain ⟨k, hk⟩ := List.exists_mem_of_ne_nil _ rn.2
        have := (hns k).mpr hk
        rw [e] at this
        exact nomatch this
      refine ⟨D2, ns.map (prd ws us), rfl, SqL.of hD2, by simpa using nne, fun M hM1 hM2 => q M _ (G3.trans g) ⟨?_, fun k hk => hM2 _ (List.mem_map.mpr ⟨k, (hns k).mpr hk, rfl⟩)⟩⟩
      refine L2.put_away fun G'1012 h'1012 => ?_
      obtain ⟨k, hk, rfl⟩ := List.mem_map.mp hM1
      refine h'1012 ?_
      exact ⟨k, (hns k).mp hk, rfl⟩
  · refine L2.put_away fun G'1014 h'1014 => ?_
    obtain ⟨a, b, v, xs, ys, ws, us, p, rfl, hS, hP, hS2, hP2, hw, hu, lw, lu, hv, hd, hr2, q⟩ := h
    refine h'1014 ?_
    refine ⟨_, (pss_cons (ps_if (pt_not (pt_val (pe_def (G_lets_meet.mono (by first | decide | (clear lw lu hd hr2; omega))) hr (pa_cons (pv 0) (pa_cons (pv 1) (pa_cons (pv 2) pa_nil)))) (fun _ => rfl))) (pss_one (ps_raise O_NoPaper rfl throwX (pa_cons pe_str pa_nil))) pss_nil) (pss_one (ps_ret (pe_callB (call_maxI rfl) rfl m_max (by decide +kernel) (pa_cons (pe_comp (CompSc.capt (own := ["k"]) (capt := ["other", "one"]) (fr := [1, 0]) rfl ⟨rfl, rfl, rfl, rfl, rfl, ⟨rfl, rfl, rfl, rfl, rfl, trivial⟩⟩ (by decide +kernel) (by decide +kernel) rfl (by decide +kernel)) rfl (pi_list (pe_callB (call_sortedI rfl) rfl m_sorted (by decide +kernel) (pa_cons (pe_callTy (call_setI rfl) rfl m_set (by decide +kernel) (pa_cons (pe_def (G_paper_names.mono (by first | decide | (clear lw lu hd hr2; omega))) hr (pa_cons (pv 2) pa_nil)) pa_nil)) pa_nil))) (fun _ _ _ => (pg_name (i := 0) (show (["k", "other", "one"] : List Str).Nodup from by decide +kernel) rfl (Or.inl rfl) (Or.inr rfl))) (fun _ _ _ => pts_nil) (fun _ _ _ => (pe_def (G_pair_round.mono (by first | decide | (clear lw lu hd hr2; omega))) hr (pa_cons (pv 2) (pa_cons (pv 1) (pa_cons (pv 0) pa_nil)))))) pa_nil))))), ?_⟩
    walk_at "wp"
    refine ⟨a, b, v, xs, ys, ws, us, p, rfl, hS, hP, hS2, hP2, hw, hu, lw, lu, hv, hd, fun H1 g1 => ?_⟩
    rw [hr2]
    walk_at "wp"
    exact ⟨by decide, fun x hx => q x H1 g1 hx⟩
noncomputable def sp_waitsX (K : PySem.W.Frag) (C : Addr) (d : Nat) : Sp := fun vs H _ E => ∃ (a b : Addr) (xs ys : List V) (hs : List Hd) (ps : List Pap), vs = [.ref a, .ref b] ∧ H a = some (.lst xs) ∧ Hds H xs hs ∧ H b = some (.lst ys) ∧ PapsIn K anyL H ys ps ∧ hs.length ≤ 50 ∧ (∀ h ∈ hs, h.1.length ≤ 50 ∧ ∀ u ∈ h.1, Wk u ∧ u.1 ≤ 2 ^ 1000) ∧ (∀ p ∈ ps, p.dep < d ∧ p.kn < 64) ∧ (hs.length = ps.length + 1 → ∃ (i : Nat) (h g : Hd) (p : Pap), hs[i]? = some h ∧ hs[i + 1]? = some g ∧ ps[i]? = some p ∧ rightB (shs h.1 g.1) 1 0 p = false) ∧ ∀ x H', Same H H' → H' x = none → E (.ref C) (some x) H'
noncomputable def sp_waitsU (K : PySem.W.Frag) (C : Addr) (d : Nat) : Sp := fun vs H Q E => ∃ (a b : Addr) (xs ys : List V) (hs : List Hd) (ps : List Pap), vs = [.ref a, .ref b] ∧ H a = some (.lst xs) ∧ Hds H xs hs ∧ H b = some (.lst ys) ∧ PapsIn K anyL H ys ps ∧ hs.length ≤ 50 ∧ (∀ h ∈ hs, h.1.length ≤ 50 ∧ ∀ u ∈ h.1, Wk u ∧ u.1 ≤ 2 ^ 1000) ∧ (∀ p ∈ ps, p.dep < d ∧ p.kn < 64) ∧ ((hs.length = ps.length + 1 → ∃ (i : Nat) (h g : Hd) (p : Pap), hs[i]? = some h ∧ hs[i + 1]? = some g ∧ ps[i]? = some p ∧ rightB (shs h.1 g.1) 1 0 p = false) → ∀ x H', Same H H' → H' x = none → E (.ref C) (some x) H') ∧ (hs.length = ps.length + 1 → RightAll d hs ps → ∀ (Ms : List Int) (H' : Hp), Same H H' → Waits hs ps Ms → Q (.int Ms.sum) H')
theorem h_waits_ofU {d : Nat} {c_NoPaper : Addr} {bm : List Value} (T : TF K mg "waits_of" s_waits_of) (m_len : mg "len" = none) (m_sum : mg "sum" = none) (m_zip : mg "zip" = none) (O_NoPaper : OX K mg "NoPaper" c_NoPaper bm) (G_paper_wait : HasX P w K mg base (d + 6) "paper_wait" ["one", "other", "paper"] (sp_waitB K c_NoPaper d)) : HasL P w K mg base (d + 7) "waits_of" ["hands", "papers"] (sp_waitsU K c_NoPaper d) := by
  refine tf_hasL T sc_waits_of (fun _ _ _ _ _ _ => L2.bnd2 fun _ _ => rfl) (fun vs H Q E h => ?_) (fun f cdv A outer s H vs Q E hr h => ?_)
  · refine L2.put_away fun G'1109 h'1109 => ?_
    obtain ⟨a, b, xs, ys, hs, ps, rfl, _⟩ := h
    refine h'1109 ?_
    rfl
  refine L2.put_away fun G'1111 h'1111 => ?_
  obtain ⟨a, b, xs, ys, hs, ps, rfl, hA, hH, hB, hS, h50, hw, hk, qx, q⟩ := h
  refine h'1111 ?_
  refine ⟨_, (pss_cons (ps_if (pt_cmpR op_ne (pe_callB call_len_seq rfl m_len PySem.boot_len (pa_cons (pv 1) pa_nil)) (pe_op op_sub (pe_callB call_len_seq rfl m_len PySem.boot_len (pa_cons (pv 0) pa_nil)) pe_int) (nomark _)) (pss_one (ps_raise O_NoPaper rfl throwX (pa_cons pe_str pa_nil))) pss_nil) (pss_one (ps_ret (pe_callB (call_sumA rfl) rfl m_sum (by decide +kernel) (pa_cons (pe_compX (CompSc.none (own := ["here", "there", "paper"]) (by decide +kernel) (by decide +kernel) rfl (by decide +kernel)) rfl rfl rfl rfl onX_cx (pi_zip3 rfl m_zip (pv 0) (pe_slice sl_list (pv 0) (po_some pe_int) po_none) (pv 1)) (fun _ _ _ => (show PG _ _ (gTup K 3 (gCons (gName 0) (gCons (gName 1) (gCons (gName 2) gNil)))) from pg_tup (n := 3) rfl (pgs_cons (pg_name (i := 0) (show (["here", "there", "paper"] : List Str).Nodup from by decide +kernel) rfl (Or.inl rfl) (Or.inr rfl)) (pgs_cons (pg_name (i := 1) (show (["here", "there", "paper"] : List Str).Nodup from by decide +kernel) rfl (Or.inl rfl) (Or.inr rfl)) (pgs_cons (pg_name (i := 2) (show (["here", "there", "paper"] : List Str).Nodup from by decide +kernel) rfl (Or.inl rfl) (Or.inr rfl)) pgs_nil))))) (fun _ _ _ => pts_nil) (fun _ _ _ => (pe_defX (G_paper_wait.mono (by first | decide | (clear h50 hw hk qx q; omega))) hr passC (pa_cons (pe_ix (ix_tupK (K := K) rfl) (pv 0) pe_int (fun _ _ => rfl)) (pa_cons (pe_ix (ix_tupK (K := K) rfl) (pv 1) pe_int (fun _ _ => rfl)) (pa_cons (pv 2) pa_nil)))))) pa_nil))))), ?_⟩
  have lx := hH.1
  have ly := hS.len
  walk_at "wp"
  refine ⟨_, _, rfl, .inl (SqL.of hB), _, _, rfl, .inl (SqL.of hA), fun c => ?_, fun c => ?_⟩
  · exact ⟨by decide, fun x hx => qx (fun e => absurd (show (ys.length : Int) = (xs.length : Int) - 1 by (clear h50 hw hk qx q c; omega)) c) x H (Same.refl H) hx⟩
  have hl : hs.length = ps.length + 1 := by
    have : (ys.length : Int) = (xs.length : Int) - 1 := Decidable.byContradiction c
    (clear h50 hw hk qx q this; omega)
  refine ⟨a, _, rfl, SqL.of hA, fun p hp => ?_⟩
  have ec : cutV xs (some 1) none = xs.drop 1 := by
    rw [show (some (1 : Int)) = some ((1 : Nat) : Int) from rfl, cutV_drop]
  rw [ec]
  have gp := same_new hp (.lst (xs.drop 1))
  have hp2 := upd_same (H := H) (a := p) (o := .lst (xs.drop 1))
  generalize upd H p (.lst (xs.drop 1)) = H1 at gp hp2 ⊢
  refine ⟨_, _, _, xs, xs.drop 1, ys, rfl, rfl, rfl, SqL.of (gp _ _ hA), SqL.of hp2, SqL.of (gp _ _ hB), ?_⟩
  have en : min (min xs.length (xs.drop 1).length) ys.length = ps.length := by
    rw [List.length_drop]
    (clear hw hk qx q hl ec hp2 lx h50; omega)
  rw [en]
  obtain ⟨Sv, hSv⟩ : ∃ Sv : St → Prop, Sv = fun σ => ∃ o1 o2 o3, σ = [o1, o2, o3] := ⟨_, rfl⟩
  obtain ⟨Pv, hPv⟩ : ∃ Pv : Addr → Nat → List V → Hp → Prop, Pv = fun D i vs H4 => H1 D = none ∧ Same H1 H4 ∧ ∃ Ms : List Int, vs = Ms.map V.int ∧ Ms.length = i ∧ (∀ (j : Nat) (h g : Hd) (pp : Pap) (M : Int), hs[j]? = some h → hs[j + 1]? = some g → ps[j]? = some pp → Ms[j]? = some M → IsMx (prd h.1 g.1) pp.nm M) ∧ ∀ (j : Nat) (h g : Hd) (pp : Pap), j < i → hs[j]? = some h → hs[j + 1]? = some g → ps[j]? = some pp → rightB (shs h.1 g.1) 1 0 pp = true := ⟨_, rfl⟩
  refine compW_zip3 (xs := xs) (ys := xs.drop 1) (zs := ys) Sv Pv en (by rw [hSv]; exact ⟨none, none, none, rfl⟩) (fun D hD => ?_) (fun D i vs H4 hD h => ?_) (fun D i x y z T vs σ H4 hx hy hz hi nT hs2 hD hv h => ?_) (fun D vs H4 hD h => ?_)
  · rw [hPv]
    exact ⟨hD, same_new hD _, [], rfl, rfl, (fun j h g pp M _ _ _ e => by simp at e), fun j h g pp e => absurd e (Nat.not_lt_zero _)⟩
  · rw [hPv] at h
    exact ⟨SqL.of (h.2.1 _ _ (gp _ _ hA)), SqL.of (h.2.1 _ _ hp2), SqL.of (h.2.1 _ _ (gp _ _ hB))⟩
  · rw [hSv] at hs2
    rw [hPv] at h
    refine L2.put_away fun G'1142 h'1142 => ?_
    obtain ⟨o1, o2, o3, rfl⟩ := hs2
    refine h'1142 ?_
    refine L2.put_away fun G'1143 h'1143 => ?_
    obtain ⟨nD, g, Ms, rfl, lM, hMs, hM⟩ := h
    refine h'1143 ?_
    have hy' : xs[i + 1]? = some y := by
      rw [List.getElem?_drop, Nat.add_comm] at hy
      exact hy
    have gT := same_new nT (.tup [x, y, z])
    have hT := upd_same (H := H4) (a := T) (o := .tup [x, y, z])
    have hD5 := gT _ _ hD
    have GT := gp.trans (g.trans gT)
    generalize upd H4 T (.tup [x, y, z]) = H5 at gT hT hD5 GT ⊢
    refine L2.put_away fun G'1152 h'1152 => ?_
    obtain ⟨p1, a1, y1, h1, i1, rfl, t1, l1, P1⟩ := (hH.same GT).at hx
    refine h'1152 ?_
    refine L2.put_away fun G'1153 h'1153 => ?_
    obtain ⟨p2, a2, y2, h2, i2, rfl, t2, l2, P2⟩ := (hH.same GT).at hy'
    refine h'1153 ?_
    refine L2.put_away fun G'1154 h'1154 => ?_
    obtain ⟨pp, i3, hpp⟩ := (hS.mono GT).at hz
    refine h'1154 ?_
    have m1 := hw h1 (List.mem_of_getElem? i1)
    have m2 := hw h2 (List.mem_of_getElem? i2)
    have kk := hk pp (List.mem_of_getElem? i3)
    refine ⟨T, _, rfl, SqT.of hT, rfl, ?_⟩
    walk_at "wp"
    refine ⟨_, _, _, .ref a1, rfl, rfl, SqT.of t1, rfl, _, _, _, .ref a2, rfl, rfl, SqT.of t2, rfl, ?_⟩
    cases hrb : rightB (shs h1.1 h2.1) 1 0 pp with
    | false =>
      exact .inr ⟨a1, a2, z, y1, y2, h1.1, h2.1, pp, rfl, SqL.of l1, P1, SqL.of l2, P2, fun u hu => (m1.2 u hu).1, fun u hu => (m2.2 u hu).1, by (clear h50 hw hk qx q lx ly c hl ec hp2 en hPv hz hi hD hv lM hMs hM hD5 h'1152 i1 hx t1 h'1153 i2 hy hy' h'1142 h'1143 t2 h'1154 i3 m2 kk hrb; omega), by (clear h50 hw hk qx q lx ly c hl ec hp2 en hPv hz hi hD hv lM hMs hM hD5 h'1152 i1 hx t1 h'1153 i2 hy hy' h'1142 h'1143 t2 h'1154 i3 m1 kk hrb; omega), hpp, kk.1, hrb, fun x H6 g6 hx6 => qx (fun _ => ⟨i, h1, h2, pp, i1, i2, i3, hrb⟩) x H6 (GT.trans g6) hx6⟩
    | true =>
      refine .inl ⟨a1, a2, z, y1, y2, h1.1, h2.1, pp, rfl, SqL.of l1, P1, SqL.of l2, P2, m1.2, m2.2, by (clear h50 hw hk qx q lx ly c hl ec hp2 en hPv hz hi hD hv lM hMs hM hD5 h'1152 i1 hx t1 h'1153 i2 hy hy' h'1142 h'1143 t2 h'1154 i3 m2 kk hrb; omega), by (clear h50 hw hk qx q lx ly c hl ec hp2 en hPv hz hi hD hv lM hMs hM hD5 h'1152 i1 hx t1 h'1153 i2 hy hy' h'1142 h'1143 t2 h'1154 i3 m1 kk hrb; omega), hpp, kk.1, kk.2, hrb, fun M H6 g6 hM6 => ?_⟩
      have hD6 := g6 _ _ hD5
      refine CompP.mk hD6 hv (by rw [sizeLine_eq]; (clear hw hk qx q hl ec hp2 hPv hz hD hv hMs hM hD5 h'1152 i1 hx t1 h'1153 i2 hy hy' h'1142 h'1143 t2 h'1154 i3 m1 m2 kk hrb hD6 lM en; omega)) (by rw [hSv]; exact ⟨_, _, _, rfl⟩) (by
        rw [hPv]
        refine ⟨nD, ((g.trans gT).trans g6).write nD _, Ms ++ [M], by simp, by simp [lM], fun j h g pp2 M2 eh eg ep ej => ?_, fun j h g pp2 hj eh eg ep => ?_⟩
        · by_cases hj : j < i
          · rw [List.getElem?_append_left (by (clear h50 hw hk qx q lx ly c hl ec hp2 en hPv hz hi hD hv hMs hM hD5 h'1152 i1 hx t1 h'1153 i2 hy hy' h'1142 h'1143 t2 h'1154 i3 m1 m2 kk hrb hD6 eh eg ep ej; omega))] at ej
            exact hMs j h g pp2 M2 eh eg ep ej
          · have lj := (List.getElem?_eq_some_iff.mp ej).1
            rw [List.length_append, List.length_singleton] at lj
            have : j = i := by (clear h50 hw hk qx q lx ly c hl ec hp2 en hPv hz hi hD hv hMs hM hD5 h'1152 i1 hx t1 h'1153 i2 hy hy' h'1142 h'1143 t2 h'1154 i3 m1 m2 kk hrb hD6 eh eg ep ej; omega)
            subst this
            rw [i1] at eh
            rw [i2] at eg
            rw [i3] at ep
            cases eh
            cases eg
            cases ep
            rw [List.getElem?_append_right (by (clear h50 hw hk qx q lx ly c hl ec hp2 en hPv hD hMs hD5 t1 t2 m1 m2 kk hrb hD6 ej lj hz hi hv hM h'1152 i1 hx h'1153 i2 hy hy' h'1142 h'1143 h'1154 i3 hj; omega)), lM, Nat.sub_self] at ej
            cases ej
            exact hM6
        by_cases c : j < i
        · exact hM j h g pp2 c eh eg ep
        · have : j = i := by (clear h50 hw hk qx q lx ly hl ec hp2 en hPv hz hi hD hv hMs hM hD5 h'1152 i1 hx t1 h'1153 i2 hy hy' h'1142 h'1143 t2 h'1154 i3 m1 m2 kk hrb hD6 eh eg ep lM; omega)
          subst this
          rw [i1] at eh
          rw [i2] at eg
          rw [i3] at ep
          cases eh
          cases eg
          cases ep
          exact hrb)
  · rw [hPv] at h
    refine L2.put_away fun G'1198 h'1198 => ?_
    obtain ⟨nD, g, Ms, rfl, lM, hM, hRA⟩ := h
    refine h'1198 ?_
    refine ⟨D, Ms, rfl, SqL.of hD, q hl (fun j h g' pp eh eg ep => ?_) Ms _ (gp.trans g) ⟨lM, hM⟩⟩
    have kk := hk pp (List.mem_of_getElem? ep)
    exact ⟨hRA j h g' pp (List.getElem?_eq_some_iff.mp ep).1 eh eg ep, kk.1, kk.2⟩
theorem waits_of_quiet {d : Nat} {c_NoPaper : Addr} (h : HasL P w K mg base (d + 7) "waits_of" ["hands", "papers"] (sp_waitsU K c_NoPaper d)) : Has P w K mg base (d + 7) "waits_of" ["hands", "papers"] (sp_waits K d) :=
  hasL_quiet h fun vs H Q E z => by
    refine L2.put_away fun G'1204 h'1204 => ?_
    obtain ⟨a, b, xs, ys, hs, ps, e, hA, hH, hB, hS, hl, h50, hw, hR, q⟩ := z
    refine h'1204 ?_
    refine ⟨a, b, xs, ys, hs, ps, e, hA, hH, hB, hS, h50, hw, fun p hp => ?_, fun hb => ?_, fun _ _ => q⟩
    · obtain ⟨i, hi⟩ := List.getElem?_of_mem hp
      have li := (List.getElem?_eq_some_iff.mp hi).1
      exact (hR i _ _ p (List.getElem?_eq_getElem (show i < hs.length by (clear h50 hw q hi; omega))) (List.getElem?_eq_getElem (show i + 1 < hs.length by (clear h50 hw q hi; omega))) hi).2
    · refine L2.put_away fun G'1209 h'1209 => ?_
      obtain ⟨i, h1, g1, p, e1, e2, e3, e4⟩ := hb hl
      refine h'1209 ?_
      rw [(hR i h1 g1 p e1 e2 e3).1] at e4
      cases e4
theorem waits_of_x {d : Nat} {c_NoPaper : Addr} (h : HasL P w K mg base (d + 7) "waits_of" ["hands", "papers"] (sp_waitsU K c_NoPaper d)) : HasX P w K mg base (d + 7) "waits_of" ["hands", "papers"] (sp_waitsX K c_NoPaper d) :=
  (hasL_x h).imp fun vs H Q E z => by
    refine L2.put_away fun G'1214 h'1214 => ?_
    obtain ⟨a, b, xs, ys, hs, ps, e, hA, hH, hB, hS, h50, hw, hk, hbad, q⟩ := z
    refine h'1214 ?_
    refine ⟨a, b, xs, ys, hs, ps, e, hA, hH, hB, hS, h50, hw, hk, fun _ => q, fun hl hR => ?_⟩
    refine L2.put_away fun G'1216 h'1216 => ?_
    obtain ⟨i, h1, g1, p, e1, e2, e3, e4⟩ := hbad hl
    refine h'1216 ?_
    rw [(hR i h1 g1 p e1 e2 e3).1] at e4
    cases e4

structure Row (by_ gr : Int) (ws : List T3) (at_ bs : Nat) : Prop where
  len : (ws.length : Int) = bs + by_
  low : at_ < bs
  few : bs ≤ 3
  wk : ∀ u ∈ ws, Wk u ∧ u.1 ≤ 10 ^ 60
  half : ∀ u, ws[at_]? = some u → u.1 < 2 * u.2.2
  parts : ∀ (c : Nat) u, (c : Int) < by_ → ws[bs + c]? = some u → u.2.2 = 1 ∧ by_ ∣ u.1 ∧ by_ ∣ u.2.1 - c ∧ (gr = 0 → u.1 = by_)
theorem shs_name {ws us : List T3} {i j : Nat} (hi : i < ws.length) (hj : j < us.length) : i * us.length + j < ws.length * us.length ∧ (shs ws us).getD (i * us.length + j) (1, 0, 1) = sh2 ws[i] us[j] := by
  have n0 : 0 < us.length := by (clear hi; omega)
  have h : i * us.length + j < ws.length * us.length := by
    have := Nat.mul_le_mul_right us.length (show i + 1 ≤ ws.length from hi)
    rw [Nat.add_mul, Nat.one_mul] at this
    (clear hi n0; omega)
  refine ⟨h, ?_⟩
  rw [shs_at h]
  have e1 : (i * us.length + j) / us.length = i := by
    rw [Nat.mul_comm, Nat.mul_add_div n0, Nat.div_eq_of_lt hj]
    rfl
  have e2 : (i * us.length + j) % us.length = j := by
    rw [Nat.mul_comm, Nat.mul_add_mod, Nat.mod_eq_of_lt hj]
  rw [e1, e2]
  rw [List.getD_eq_getElem?_getD, List.getElem?_eq_getElem hi, List.getD_eq_getElem?_getD, List.getElem?_eq_getElem hj]
  rfl
theorem pair_full {by_ g1 g2 : Int} {ws us : List T3} {a1 b1 a2 b2 : Nat} (b2' : 2 ≤ by_) (R1 : Row by_ g1 ws a1 b1) (R2 : Row by_ g2 us a2 b2) : Full (shs ws us) ((a1 * us.length + a2 : Nat) : Int) := by
  have l1 := R1.len
  have l2 := R2.len
  have o1 := R1.low
  have o2 := R2.low
  have hi : a1 < ws.length := by (clear o2 l2; omega)
  have hj : a2 < us.length := by (clear o1 hi l1; omega)
  obtain ⟨h1, h2⟩ := shs_name hi hj
  have w1 := (R1.wk _ (List.getElem_mem hi)).1
  have w2 := (R2.wk _ (List.getElem_mem hj)).1
  have f1 := R1.half _ (List.getElem?_eq_getElem hi)
  have f2 := R2.half _ (List.getElem?_eq_getElem hj)
  unfold Full
  rw [Int.toNat_natCast, h2, shs_len]
  generalize ws[a1] = u at *
  generalize us[a2] = v at *
  have gp := gcdI_pos (a := u.1) (b := v.1) (by have := w1.1; (clear b2' l1 l2 o1 o2 hi hj h1 f1 f2 h2; omega))
  have gl := gcdI_le_left v.1 (show 0 < u.1 by have := w1.1; (clear b2' l1 l2 o1 o2 hi hj h1 f1 f2 h2 gp; omega))
  have gr : gcdI u.1 v.1 ≤ v.1 := by rw [gcdI_comm]; exact gcdI_le_left _ (by have := w2.1; (clear b2' l1 l2 o1 o2 hi hj h1 f1 f2 h2 gp gl; omega))
  refine ⟨by (clear b2' l1 l2 o1 o2 hi hj h1 f1 f2 h2 gp gl gr; omega), by (clear b2' l1 l2 o1 o2 hi hj f1 f2 h2 gp gl gr; omega), ?_, ?_⟩
  · show 1 ≤ gcdI u.1 v.1
    (clear b2' l1 l2 o1 o2 hi hj h1 f1 f2 h2 gl gr; omega)
  · show (if u.2.2 + v.2.2 - 1 < gcdI u.1 v.1 then u.2.2 + v.2.2 - 1 else gcdI u.1 v.1) = gcdI u.1 v.1
    rw [if_neg (by (clear b2' l1 l2 o1 o2 hi hj h1 h2 gp; omega))]
noncomputable def RowAt (H : Hp) (r : Addr) (by_ gr : Int) (ws : List T3) (at_ bs : Nat) : Prop := ∃ (L : Addr) (xs : List V), H r = some (.lst [.ref L, .int (at_ : Int), .int (bs : Int)]) ∧ H L = some (.lst xs) ∧ Pl H xs ws ∧ Row by_ gr ws at_ bs
theorem RowAt.era {H : Hp} {r L D : Addr} {by_ gr : Int} {ws : List T3} {at_ bs : Nat} {xs zs : List V} (hD : H D = some (.lst zs)) (nr : r ≠ D) (nL : L ≠ D) (h1 : H r = some (.lst [.ref L, .int (at_ : Int), .int (bs : Int)])) (h2 : H L = some (.lst xs)) (h3 : Pl H xs ws) (h4 : Row by_ gr ws at_ bs) : RowAt (era H D) r by_ gr ws at_ bs :=
  ⟨L, xs, by rw [era_ne nr]; exact h1, by rw [era_ne nL]; exact h2, h3.era hD, h4⟩
theorem RowAt.same {H H' : Hp} {r : Addr} {by_ gr : Int} {ws : List T3} {at_ bs : Nat} (g : Same H H') (h : RowAt H r by_ gr ws at_ bs) : RowAt H' r by_ gr ws at_ bs := let ⟨L, xs, h1, h2, h3, h4⟩ := h; ⟨L, xs, g _ _ h1, g _ _ h2, h3.same g, h4⟩
noncomputable def sp_row : Sp := fun vs H Q _ => ∃ c part by_ gr : Int, vs = [.int c, .int part, .int by_, .int gr] ∧ Builtin.Int.intBits c ≤ 2 ^ 21 ∧ 1 ≤ part ∧ part ≤ 10 ^ 30 ∧ 2 ≤ by_ ∧ by_ ≤ 4 ∧ 0 ≤ gr ∧ gr ≤ 1 ∧ ∀ (r L : Addr) (xs : List V) (ws : List T3) (at_ bs : Nat) (H' : Hp), Same H H' → H r = none → H L = none → H' r = some (.lst [.ref L, .int (at_ : Int), .int (bs : Int)]) → H' L = some (.lst xs) → Pl H' xs ws → Row by_ gr ws at_ bs → Q (.ref r) H'
theorem Pl.ins {H : Hp} {xs : List V} {ws : List T3} {p : Addr} {t : T3} (h : Pl H xs ws) (hp : H p = some (tupW t)) {k : Nat} (hk : k ≤ xs.length) : Pl H (xs.take k ++ .ref p :: xs.drop k) (ws.take k ++ t :: ws.drop k) := by
  have h1 := (h.take k).snoc hp
  have h2 := h1.append (h.drop k)
  simpa using h2

theorem h_law_plan (T : TF K mg "_law_plan" s_law_plan) (m_len : mg "len" = none) (m_range : mg "range" = none) (G_law_big : Has P w K mg base 1 "_law_big" ["cell"] sp_big) : Has P w K mg base 2 "_law_plan" ["cell", "part", "by", "great"] sp_row := by
  refine T.has sc_law_plan (fun _ _ _ _ _ _ => L2.bnd4 fun _ _ _ _ => rfl) (fun vs H Q E h => ?_) (fun f cdv A outer s H vs Q E hr h => ?_)
  · refine L2.put_away fun G'1305 h'1305 => ?_
    obtain ⟨c, part, by_, gr, rfl, _⟩ := h
    refine h'1305 ?_
    rfl
  refine L2.put_away fun G'1307 h'1307 => ?_
  obtain ⟨c, part, by_, gr, rfl, hc, p0, p1, b0, b1, g0, g1, q⟩ := h
  refine h'1307 ?_
  refine ⟨_, (pss_cons (ps_set (i := 4) sc_law_plan.nd rfl (Or.inl rfl) (pe_def (G_law_big.mono (by first | decide | omega)) hr (pa_cons (pv 0) pa_nil))) (pss_cons (ps_set (i := 5) sc_law_plan.nd rfl (Or.inl rfl) (pe_lst pa_nil)) (pss_cons (ps_for PassesOwn.never rfl (pi_range1 rfl m_range (pa_cons (pe_op op_mod (pv 4) pe_int) pa_nil)) (pg_name (i := 6) sc_law_plan.nd rfl (Or.inl rfl)) (pss_cons (ps_set (i := 7) sc_law_plan.nd rfl (Or.inl rfl) (pe_op op_mulA (pv 1) (pe_op op_add pe_int (pe_op op_mod (pe_op op_fdivA (pv 4) (pe_op op_add pe_int (pe_op op_mulA pe_int (pv 6)))) pe_int)))) (pss_one (ps_expr (pe_bm PySem.F.plainAttrs_list PySem.F.slot_list_append PySem.F.type_list_append mt_append (pv 5) (pa_cons (pe_tup (pa_cons (pv 7) (pa_cons (pe_op op_mod (pe_op op_fdivA (pv 4) pe_int) (pv 7)) (pa_cons (pe_op op_add pe_int (pe_op op_fdivA (pe_op op_mod (pe_op op_fdivA (pv 4) pe_int) (pv 7)) pe_int)) pa_nil)))) pa_nil)))))) (pss_cons (ps_set (i := 7) sc_law_plan.nd rfl (Or.inl rfl) (pe_op op_mulA (pv 1) (pe_op op_add pe_int (pe_op op_mod (pe_op op_fdivA (pv 4) pe_int) pe_int)))) (pss_cons (ps_set (i := 8) sc_law_plan.nd rfl (Or.inl rfl) (pe_op op_mod (pe_op op_fdivA (pv 4) pe_int) (pe_op op_add (pe_callB call_len_seq rfl m_len PySem.boot_len (pa_cons (pv 5) pa_nil)) pe_int))) (pss_cons (ps_expr (pe_bm PySem.F.plainAttrs_list PySem.F.slot_list_insert PySem.F.type_list_insert mt_insert (pv 5) (pa_cons (pv 8) (pa_cons (pe_tup (pa_cons (pv 7) (pa_cons (pe_op op_mod (pe_op op_fdivA (pv 4) pe_int) (pv 7)) (pa_cons (pe_op op_sub (pv 7) (pe_op op_fdivA (pe_op op_mod (pe_op op_fdivA (pv 4) pe_int) (pv 7)) pe_int)) pa_nil)))) pa_nil)))) (pss_cons (ps_for PassesOwn.never rfl (pi_range1 rfl m_range (pa_cons (pv 2) pa_nil)) (pg_name (i := 9) sc_law_plan.nd rfl (Or.inl rfl)) (pss_cons (ps_set (i := 10) sc_law_plan.nd rfl (Or.inl rfl) (pe_op op_add pe_int (pe_op op_mulA (pv 3) (pe_op op_mod (pe_op op_fdivA (pv 4) (pe_op op_add pe_int (pv 9))) (pe_op op_pow pe_int pe_int))))) (pss_one (ps_expr (pe_bm PySem.F.plainAttrs_list PySem.F.slot_list_append PySem.F.type_list_append mt_append (pv 5) (pa_cons (pe_tup (pa_cons (pe_op op_mulA (pv 2) (pv 10)) (pa_cons (pe_op op_add (pv 9) (pe_op op_mulA (pv 2) (pe_op op_mod (pe_op op_fdivA (pv 4) (pe_op op_add pe_int (pv 9))) (pv 10)))) (pa_cons pe_int pa_nil)))) pa_nil)))))) (pss_one (ps_ret (pe_lst (pa_cons (pv 5) (pa_cons (pv 8) (pa_cons (pe_op op_sub (pe_callB call_len_seq rfl m_len PySem.boot_len (pa_cons (pv 5) pa_nil)) (pv 2)) pa_nil))))))))))))), ?_⟩
  walk_at "wp"
  refine ⟨c, rfl, hc, fun n n0 n1 => ?_⟩
  walk_at "wp"
  generalize part = pt at *
  have t0 := p0
  have t1 : pt ≤ 10 ^ 50 := by (clear hc b0 b1 g0 g1 q n0 n1 t0 p0; omega)
  intro D nD
  have gD := same_new nD (.lst [])
  have hD := upd_same (H := H) (a := D) (o := .lst [])
  generalize upd H D (.lst []) = H1 at gD hD ⊢
  have n3 := modB n (show (0 : Int) < 3 by decide)
  have period : ∀ k : Int, 1 ≤ pt * (1 + k % 6) ∧ pt * (1 + k % 6) ≤ 10 ^ 51 := fun k => by
    have kb := modB k (show (0 : Int) < 6 by decide)
    have mu := mulB (a := pt) (b := 1 + k % 6) (A := 10 ^ 50) (B := 6) (by (clear hc b0 b1 g0 g1 q n0 n1 t0 t1 n3 kb p1; omega)) (by (clear hc b0 b1 g0 g1 q n0 n1 p0 p1 t0 n3 kb; omega)) (by (clear hc b0 b1 g0 g1 q n0 n1 p0 p1 t0 t1 n3 kb; omega)) (by (clear hc b0 b1 g0 g1 q n0 n1 p0 p1 t0 t1 n3 kb; omega))
    have mp := Int.mul_pos (show 0 < pt by (clear hc b0 b1 g0 g1 q n0 n1 t0 t1 n3 kb mu p1; omega)) (show 0 < 1 + k % 6 by (clear hc b0 b1 g0 g1 q n0 n1 p0 p1 t0 t1 n3 mu kb; omega))
    exact ⟨by (clear hc b0 b1 g0 g1 q n0 n1 p0 p1 t0 t1 n3 kb mu; omega), Int.le_trans mu.2 (by decide)⟩
  refine ⟨by decide, _, rfl, by (clear hc b0 b1 g0 g1 q n0 n1 p0 p1 t0 t1 period n3; omega), by (clear hc b0 b1 g0 g1 q n0 n1 p0 p1 t0 t1 period n3; omega), ?_⟩
  obtain ⟨W, hW⟩ : ∃ W : Nat → St → Hp → Prop, W = fun i σ H2 => ∃ (o1 o2 : Option V) (xs : List V) (ws : List T3), σ = [some (.int c), some (.int pt), some (.int by_), some (.int gr), some (.int n), some (.ref D), o1, o2, none, none, none] ∧ Same H H2 ∧ H2 D = some (.lst xs) ∧ Pl H2 xs ws ∧ ws.length = i ∧ ∀ u ∈ ws, Wk u ∧ u.1 ≤ 10 ^ 60 := ⟨_, rfl⟩
  refine forW_range W ?_ (fun i σ H2 hi z => ?_) (fun σ H2 z => ?_)
  · rw [hW]
    exact ⟨none, none, [], [], rfl, gD, hD, .nil, rfl, fun u h => nomatch h⟩
  · rw [hW] at z
    refine L2.put_away fun G'1331 h'1331 => ?_
    obtain ⟨o1, o2, xs, ws, rfl, g, hD2, hP, hl, hw⟩ := z
    refine h'1331 ?_
    have e0 : (0 : Int) + (i : Int) = i := by (clear hc b0 b1 g0 g1 q n0 n1 p0 p1 t0 t1 n3 period hW hi h'1331 hl hw; omega)
    rw [e0]
    walk_at "wp"
    have pr := period (n / (9 + 8 * (i : Int)))
    refine ⟨mokS (by (clear hc b0 b1 g0 g1 q n0 n1 p0 p1 t0 t1 n3 period hW hi h'1331 hw e0 pr hl; omega)) (by (clear hc b0 b1 g0 g1 q n0 n1 p0 p1 t0 t1 period hW h'1331 hw e0 pr hl n3; omega)), divA 20 (by (clear hc b0 b1 g0 g1 q n0 n1 p0 p1 t0 t1 n3 period hW hi h'1331 hw e0 pr hl; omega)) (by (clear hc b0 b1 g0 g1 q n0 n1 p0 p1 t0 t1 period hW h'1331 hw e0 pr hl n3; omega)) (by decide), by decide, mok 200 10 (by (clear hc b0 b1 g0 g1 q n0 n1 t0 t1 n3 period hW hi h'1331 hl hw e0 pr; omega)) (by have := modB (n / (9 + 8 * (i : Int))) (show (0 : Int) < 6 by decide); (clear hc b0 b1 g0 g1 q n0 n1 p0 p1 t0 t1 n3 period hW hi h'1331 hl hw e0 pr this; omega)) (by decide), ?_⟩
    generalize pt * (1 + n / (9 + 8 * (i : Int)) % 6) = per at pr
    have f1 := modB (n / 100) (show 0 < per by (clear hc b0 b1 g0 g1 q n0 n1 p0 p1 t0 t1 n3 period hW hi h'1331 hl hw e0; omega))
    have f2 := modB (n / 1000) (show 0 < per by (clear hc b0 b1 g0 g1 q n0 n1 p0 p1 t0 t1 n3 period hW hi h'1331 hl hw e0 f1; omega))
    refine ⟨.inl ⟨rfl, _, SqL.of hD2⟩, divA 10 (by decide) (by decide) (by decide), by (clear hc b0 b1 g0 g1 q n0 n1 p0 p1 t0 t1 n3 period hW hi h'1331 hl hw e0 f1 f2; omega), divA 20 (by decide) (by decide) (by decide), by (clear hc b0 b1 g0 g1 q n0 n1 p0 p1 t0 t1 n3 period hW hi h'1331 hl hw e0 f1 f2; omega), divA 10 (by decide) (by decide) (by decide), fun p np => ?_⟩
    have gp := same_new np (.tup [.int per, .int (n / 100 % per), .int (1 + n / 1000 % per / 2)])
    refine ⟨D, xs, _, rfl, rfl, gp _ _ hD2, by rw [sizeLine_eq, hP.1]; (clear hc b0 b1 g0 g1 q n0 n1 p0 p1 t0 t1 period hW h'1331 hw e0 pr f1 f2 n3; omega), ?_⟩
    rw [hW]
    refine ⟨_, _, _, ws ++ [(per, n / 100 % per, 1 + n / 1000 % per / 2)], rfl, (g.trans gp).write nD _, upd_same, ((hP.same gp).snoc upd_same).upd (gp _ _ hD2), by simp [hl], fun v hv => ?_⟩
    rcases List.mem_append.mp hv with z | z
    · exact hw v z
    · rw [List.mem_singleton.mp z]
      exact ⟨⟨by show 1 ≤ per; (clear hc b0 b1 g0 g1 q n0 n1 p0 p1 t0 t1 n3 period hW hi h'1331 hl hw e0 f1 f2; omega), f1.1, f1.2, by show 1 ≤ 1 + n / 1000 % per / 2; (clear hc b0 b1 g0 g1 q n0 n1 p0 p1 t0 t1 n3 period hW hi h'1331 hl hw e0 f1 pr; omega), by show 1 + n / 1000 % per / 2 ≤ per; (clear hc b0 b1 g0 g1 q n0 n1 p0 p1 t0 t1 n3 period hW hi h'1331 hl hw e0 pr f1; omega)⟩, by show per ≤ 10 ^ 60; (clear hc b0 b1 g0 g1 q n0 n1 p0 p1 t0 t1 n3 period hW hi h'1331 hl hw e0 f1 f2; omega)⟩
  rw [hW] at z
  refine L2.put_away fun G'1350 h'1350 => ?_
  obtain ⟨o1, o2, xs, ws, rfl, g, hD2, hP, hl, hw⟩ := z
  refine h'1350 ?_
  walk_at "wp"
  have pr := period (n / 70)
  have k6 := modB (n / 70) (show (0 : Int) < 6 by decide)
  refine ⟨divA 10 (by decide) (by decide) (by decide), by decide, mok 200 10 (by (clear hc b0 b1 g0 g1 q n0 n1 t0 t1 n3 period hW h'1350 hl hw pr k6; omega)) (by (clear hc b0 b1 g0 g1 q n0 n1 p0 p1 t0 t1 n3 period hW h'1350 hl hw pr k6; omega)) (by decide), ?_⟩
  generalize pt * (1 + n / 70 % 6) = per at pr
  have lx := hP.1
  have h3 : ws.length ≤ 2 := by (clear hc b0 b1 g0 g1 q n0 n1 p0 p1 t0 t1 period hW h'1350 hw k6 pr lx n3; omega)
  have f1 := modB (n / 2000) (show 0 < per by (clear hc b0 b1 g0 g1 q n0 n1 p0 p1 t0 t1 n3 period hW h'1350 hl hw k6 lx h3; omega))
  have f2 := modB (n / 30) (show 0 < per by (clear hc b0 b1 g0 g1 q n0 n1 p0 p1 t0 t1 n3 period hW h'1350 hl hw k6 lx h3 f1; omega))
  have am := modB (n / 420) (show (0 : Int) < (xs.length : Int) + 1 by (clear hc b0 b1 g0 g1 q n0 n1 p0 p1 t0 t1 n3 period hW h'1350 hw k6 pr f1 f2 h3 lx hl; omega))
  obtain ⟨at_, hat⟩ : ∃ at_ : Nat, n / 420 % ((xs.length : Int) + 1) = (at_ : Int) := ⟨_, (Int.toNat_of_nonneg am.1).symm⟩
  rw [hat] at am
  refine ⟨divA 10 (by decide) (by decide) (by decide), _, _, rfl, .inl (SqL.of hD2), by (clear hc b0 b1 g0 g1 q n0 n1 p0 p1 t0 t1 n3 period hW h'1350 hw k6 pr f1 f2 am hat h3 lx hl; omega), .inl ⟨rfl, _, SqL.of hD2⟩, divA 20 (by decide) (by decide) (by decide), by (clear hc b0 b1 g0 g1 q n0 n1 p0 p1 t0 t1 n3 period hW h'1350 hl hw k6 lx h3 f1 f2 am hat; omega), divA 10 (by decide) (by decide) (by decide), by (clear hc b0 b1 g0 g1 q n0 n1 p0 p1 t0 t1 n3 period hW h'1350 hl hw k6 lx h3 f1 f2 am hat; omega), divA 10 (by decide) (by decide) (by decide), fun p np => ?_⟩
  rw [hat]
  have gp := same_new np (tupW (per, n / 2000 % per, per - n / 30 % per / 2))
  have hDp := gp _ _ hD2
  have wkp : Wk (per, n / 2000 % per, per - n / 30 % per / 2) ∧ per ≤ 10 ^ 60 := ⟨⟨by show 1 ≤ per; (clear hc b0 b1 g0 g1 q n0 n1 p0 p1 t0 t1 n3 period hW h'1350 hl hw k6 lx h3 f1 f2 am hat hDp; omega), f1.1, f1.2, by show 1 ≤ per - n / 30 % per / 2; (clear hc b0 b1 g0 g1 q n0 n1 p0 p1 t0 t1 n3 period hW h'1350 hl hw k6 pr lx h3 f1 am hat hDp; omega), by show per - n / 30 % per / 2 ≤ per; (clear hc b0 b1 g0 g1 q n0 n1 p0 p1 t0 t1 n3 period hW h'1350 hl hw k6 lx h3 f1 am hat hDp pr; omega)⟩, by (clear hc b0 b1 g0 g1 q n0 n1 p0 p1 t0 t1 n3 period hW h'1350 hl hw k6 lx h3 f1 f2 am hat hDp; omega)⟩
  have hPi : Pl (upd H2 p (tupW (per, n / 2000 % per, per - n / 30 % per / 2))) _ _ := Pl.ins (hP.same gp) (p := p) (t := (per, n / 2000 % per, per - n / 30 % per / 2)) upd_same (k := at_) (by (clear hc b0 b1 g0 g1 q n0 n1 p0 p1 t0 t1 n3 period hW h'1350 hl hw k6 pr lx h3 f1 f2 hDp wkp hat; omega))
  generalize ht : ((per, n / 2000 % per, per - n / 30 % per / 2) : T3) = tt at *
  have half : tt.1 < 2 * tt.2.2 := by
    rw [← ht]
    show per < 2 * (per - n / 30 % per / 2)
    (clear hc b0 b1 g0 g1 q n0 n1 p0 p1 t0 t1 n3 period hW h'1350 hl hw k6 pr lx h3 f1 am hat ht wkp; omega)
  refine ⟨D, xs, _, (at_ : Int), rfl, rfl, by rw [← ht] at hDp; exact hDp, by rw [sizeLine_eq]; (clear hc b0 b1 g0 g1 q n0 n1 p0 p1 t0 t1 n3 period hW h'1350 hw k6 pr f1 f2 am hat ht wkp half h3; omega), by (clear hc b0 b1 g0 g1 q n0 n1 p0 p1 t0 t1 n3 period hW h'1350 hl hw k6 pr lx h3 f1 f2 ht wkp half hat am; omega), by (clear hc b0 b1 g0 g1 q n0 n1 p0 p1 t0 t1 n3 period hW h'1350 hl hw k6 pr lx h3 f1 f2 ht wkp half hat; omega), ?_⟩
  rw [Int.toNat_natCast]
  obtain ⟨zs, hzs⟩ : ∃ zs, xs.take at_ ++ V.ref p :: xs.drop at_ = zs := ⟨_, rfl⟩
  obtain ⟨w0, hw0⟩ : ∃ w0, ws.take at_ ++ tt :: ws.drop at_ = w0 := ⟨_, rfl⟩
  rw [hzs] at hPi ⊢
  rw [hw0] at hPi
  have lw0 : w0.length = ws.length + 1 := by
    rw [← hw0, List.length_append, List.length_cons, List.length_take, List.length_drop]
    (clear hc b0 b1 g0 g1 q n0 n1 p0 p1 t0 t1 n3 period hW h'1350 hw k6 pr h3 f1 f2 ht wkp half hw0 hat am lx hl; omega)
  have hw0w : ∀ u ∈ w0, Wk u ∧ u.1 ≤ 10 ^ 60 := fun u hu => by
    rw [← hw0] at hu
    rcases List.mem_append.mp hu with z | z
    · exact hw u (List.mem_of_mem_take z)
    · rcases List.mem_cons.mp z with rfl | z
      · rw [← ht] at wkp ⊢
        exact wkp
      · exact hw u (List.mem_of_mem_drop z)
  have at0 : w0[at_]? = some tt := by
    rw [← hw0, List.getElem?_append_right (by rw [List.length_take]; (clear hc b0 b1 g0 g1 q n0 n1 p0 p1 t0 t1 n3 period hW h'1350 hw k6 pr h3 f1 f2 ht wkp half hw0 hw0w lw0 hat am lx hl; omega)), List.length_take, Nat.min_eq_left (by (clear hc b0 b1 g0 g1 q n0 n1 p0 p1 t0 t1 n3 period hW h'1350 hw k6 pr h3 f1 f2 ht wkp half hw0 hw0w lw0 hat hl; omega)), Nat.sub_self]
    rfl
  have eH : upd (upd H2 p (HO.tup [V.int per, V.int (n / 2000 % per), V.int (per - n / 30 % per / 2)])) D (.lst zs) = upd (upd H2 p (tupW tt)) D (.lst zs) := by rw [← ht]; rfl
  rw [eH]
  have g3 : Same H (upd (upd H2 p (tupW tt)) D (.lst zs)) := (g.trans gp).write nD _
  have hD3 := upd_same (H := upd H2 p (tupW tt)) (a := D) (o := .lst zs)
  have hP3 := hPi.upd (o := .lst zs) hDp
  generalize upd (upd H2 p (tupW tt)) D (.lst zs) = H3 at g3 hD3 hP3 ⊢
  refine ⟨_, rfl, by (clear hc g0 g1 q n0 n1 p0 p1 t0 t1 n3 period hW h'1350 hl hw k6 pr lx h3 f1 f2 am hat ht wkp half hw0 lw0 hw0w at0 eH b1; omega), by (clear hc g0 g1 q n0 n1 p0 p1 t0 t1 n3 period hW h'1350 hl hw k6 pr lx h3 f1 f2 am hat ht wkp half hw0 lw0 hw0w at0 eH b0; omega), ?_⟩
  obtain ⟨Z, hZ⟩ : ∃ Z : Nat → St → Hp → Prop, Z = fun i σ H4 => ∃ (o3 o4 : Option V) (xs : List V) (vs : List T3), σ = [some (.int c), some (.int pt), some (.int by_), some (.int gr), some (.int n), some (.ref D), o1, some (.int per), some (.int (at_ : Int)), o3, o4] ∧ Same H H4 ∧ H4 D = some (.lst xs) ∧ Pl H4 xs (w0 ++ vs) ∧ vs.length = i ∧ (∀ u ∈ vs, Wk u ∧ u.1 ≤ 10 ^ 60) ∧ ∀ (j : Nat) u, vs[j]? = some u → u.2.2 = 1 ∧ by_ ∣ u.1 ∧ by_ ∣ u.2.1 - j ∧ (gr = 0 → u.1 = by_) := ⟨_, rfl⟩
  refine forW_range Z ?_ (fun i σ H4 hi z => ?_) (fun σ H4 z => ?_)
  · rw [hZ]
    exact ⟨none, none, zs, [], rfl, g3, hD3, by rw [List.append_nil]; exact hP3, rfl, (fun u h => nomatch h), fun j u e => by simp at e⟩
  · rw [hZ] at z
    refine L2.put_away fun G'1406 h'1406 => ?_
    obtain ⟨o3, o4, ys, vs, rfl, g4, hD4, hP4, hl4, hv4, hj4⟩ := z
    refine h'1406 ?_
    have e0 : (0 : Int) + (i : Int) = i := by (clear hc b0 b1 g0 g1 q n0 n1 p0 p1 t0 t1 n3 period hW h'1350 hl hw k6 pr lx h3 f1 f2 am hat ht wkp half hw0 lw0 hw0w at0 eH hZ hi h'1406 hl4 hv4 hj4; omega)
    rw [e0]
    have tb := modB (n / (11 + (i : Int))) (show (0 : Int) < 10 ^ 20 by decide)
    have tm := mulB (a := gr) (b := n / (11 + (i : Int)) % 10 ^ 20) (A := 1) (B := 10 ^ 20) g0 g1 tb.1 (by (clear hc b0 b1 g0 g1 q n0 n1 p0 p1 t0 t1 n3 period hW h'1350 hl hw k6 pr lx h3 f1 f2 am hat ht wkp half hw0 lw0 hw0w at0 eH hZ hi h'1406 hl4 hv4 hj4 e0 tb; omega))
    walk_at "wp"
    have e20 : (10 : Int) ^ Int.toNat 20 = 10 ^ 20 := rfl
    rw [e20]
    refine ⟨divA 20 (by (clear hc b0 b1 g0 g1 q n0 n1 p0 p1 t0 t1 n3 period hW h'1350 hl hw k6 pr lx h3 f1 f2 am hat ht wkp half hw0 lw0 hw0w at0 eH hZ hi h'1406 hv4 hj4 e0 tb tm e20 hl4; omega)) (by (clear hc g0 g1 q n0 n1 p0 p1 t0 t1 n3 period hW h'1350 hl hw k6 pr lx h3 f1 f2 am hat ht wkp half hw0 lw0 hw0w at0 eH hZ h'1406 hv4 hj4 e0 tb tm e20 hl4 b0; omega)) (by decide), ⟨by decide, by decide, by decide⟩, by decide, mok 10 200 (by (clear hc b0 b1 q n0 n1 p0 p1 t0 t1 n3 period hW h'1350 hl hw k6 pr lx h3 f1 f2 am hat ht wkp half hw0 lw0 hw0w at0 eH hZ hi h'1406 hl4 hv4 hj4 e0 tb tm e20; omega)) (by (clear hc b0 b1 g0 g1 q n0 n1 p0 p1 t0 t1 n3 period hW h'1350 hl hw k6 pr lx h3 f1 f2 am hat ht wkp half hw0 lw0 hw0w at0 eH hZ hi h'1406 hl4 hv4 hj4 e0 tm e20 tb; omega)) (by decide), ?_⟩
    have gz : gr = 0 → 1 + gr * (n / (11 + (i : Int)) % 10 ^ 20) = 1 := fun e => by rw [e, Int.zero_mul]; rfl
    have tm2 : 1 ≤ 1 + gr * (n / (11 + (i : Int)) % 10 ^ 20) ∧ 1 + gr * (n / (11 + (i : Int)) % 10 ^ 20) ≤ 10 ^ 21 := by (clear hc b0 b1 g0 g1 q n0 n1 p0 p1 t0 t1 n3 period hW h'1350 hl hw k6 pr lx h3 f1 f2 am hat ht wkp half hw0 lw0 hw0w at0 eH hZ hi h'1406 hl4 hv4 hj4 e0 tb e20 gz; omega)
    generalize 1 + gr * (n / (11 + (i : Int)) % 10 ^ 20) = ti at tm2 gz
    have fb := modB (n / (13 + (i : Int))) (show 0 < ti by (clear hc b0 b1 g0 g1 q n0 n1 p0 p1 t0 t1 n3 period hW h'1350 hl hw k6 pr lx h3 f1 f2 am hat ht wkp half hw0 lw0 hw0w at0 eH hZ hi h'1406 hl4 hv4 hj4 e0 tb tm e20 gz; omega))
    have fm := mulB (a := by_) (b := n / (13 + (i : Int)) % ti) (A := 4) (B := 10 ^ 21) (by (clear hc g0 g1 q n0 n1 p0 p1 t0 t1 n3 period hW h'1350 hl hw k6 pr lx h3 f1 f2 am hat ht wkp half hw0 lw0 hw0w at0 eH hZ hi h'1406 hl4 hv4 hj4 e0 tb tm e20 tm2 gz fb b1; omega)) b1 fb.1 (by (clear hc b0 b1 g0 g1 q n0 n1 p0 p1 t0 t1 n3 period hW h'1350 hl hw k6 pr lx h3 f1 f2 am hat ht wkp half hw0 lw0 hw0w at0 eH hZ hi h'1406 hl4 hv4 hj4 e0 tb tm e20 gz; omega))
    have pm := mulB (a := by_) (b := ti) (A := 4) (B := 10 ^ 21) (by (clear hc g0 g1 q n0 n1 p0 p1 t0 t1 n3 period hW h'1350 hl hw k6 pr lx h3 f1 f2 am hat ht wkp half hw0 lw0 hw0w at0 eH hZ hi h'1406 hl4 hv4 hj4 e0 tb tm e20 tm2 gz fb fm b1; omega)) b1 (by (clear hc b0 b1 g0 g1 q n0 n1 p0 p1 t0 t1 n3 period hW h'1350 hl hw k6 pr lx h3 f1 f2 am hat ht wkp half hw0 lw0 hw0w at0 eH hZ hi h'1406 hl4 hv4 hj4 e0 tb tm e20 gz fb fm; omega)) (by (clear hc b0 b1 g0 g1 q n0 n1 p0 p1 t0 t1 n3 period hW h'1350 hl hw k6 pr lx h3 f1 f2 am hat ht wkp half hw0 lw0 hw0w at0 eH hZ hi h'1406 hl4 hv4 hj4 e0 tb tm e20 gz fb fm; omega))
    have pp := Int.mul_pos (show 0 < by_ by (clear hc g0 g1 q n0 n1 p0 p1 t0 t1 n3 period hW h'1350 hl hw k6 pr lx h3 f1 f2 am hat ht wkp half hw0 lw0 hw0w at0 eH hZ hi h'1406 hl4 hv4 hj4 e0 tb tm e20 tm2 gz fb fm pm b1; omega)) (show 0 < ti by (clear hc b0 b1 g0 g1 q n0 n1 p0 p1 t0 t1 n3 period hW h'1350 hl hw k6 pr lx h3 f1 f2 am hat ht wkp half hw0 lw0 hw0w at0 eH hZ hi h'1406 hl4 hv4 hj4 e0 tb tm e20 gz fb fm pm; omega))
    have fl : by_ * (n / (13 + (i : Int)) % ti) ≤ by_ * ti - by_ := by
      have := Int.mul_le_mul_of_nonneg_left (show n / (13 + (i : Int)) % ti ≤ ti - 1 by (clear hc b0 b1 g0 g1 q n0 n1 p0 p1 t0 t1 n3 period hW h'1350 hl hw k6 pr lx h3 f1 f2 am hat ht wkp half hw0 lw0 hw0w at0 eH hZ hi h'1406 hl4 hv4 hj4 e0 tb tm e20 tm2 gz fm pm pp; omega)) (show 0 ≤ by_ by (clear hc g0 g1 q n0 n1 p0 p1 t0 t1 n3 period hW h'1350 hl hw k6 pr lx h3 f1 f2 am hat ht wkp half hw0 lw0 hw0w at0 eH hZ hi h'1406 hl4 hv4 hj4 e0 tb tm e20 tm2 gz fb fm pm pp b1; omega))
      rw [Int.mul_sub, Int.mul_one] at this
      exact this
    refine ⟨.inl ⟨rfl, _, SqL.of hD4⟩, mok 10 200 (by (clear hc g0 g1 q n0 n1 p0 p1 t0 t1 n3 period hW h'1350 hl hw k6 pr lx h3 f1 f2 am hat ht wkp half hw0 lw0 hw0w at0 eH hZ hi h'1406 hl4 hv4 hj4 e0 tb tm e20 tm2 gz fb fm pm pp fl; omega)) (by (clear hc b0 b1 g0 g1 q n0 n1 p0 p1 t0 t1 n3 period hW h'1350 hl hw k6 pr lx h3 f1 f2 am hat ht wkp half hw0 lw0 hw0w at0 eH hZ hi h'1406 hl4 hv4 hj4 e0 tb tm e20 gz fb fm pm pp fl; omega)) (by decide), divA 20 (by (clear hc b0 b1 g0 g1 q n0 n1 p0 p1 t0 t1 n3 period hW h'1350 hl hw k6 pr lx h3 f1 f2 am hat ht wkp half hw0 lw0 hw0w at0 eH hZ hi h'1406 hv4 hj4 e0 tb tm e20 tm2 gz fb fm pm pp fl hl4; omega)) (by (clear hc q n0 n1 p0 p1 t0 t1 n3 period hW h'1350 hl hw k6 pr lx h3 f1 f2 am hat ht wkp half hw0 lw0 hw0w at0 eH hZ h'1406 hv4 hj4 e0 tb tm e20 tm2 fb fm pm pp fl gz hl4 g1 g0 b0; omega)) (by decide), by (clear hc b0 b1 g0 g1 q n0 n1 p0 p1 t0 t1 n3 period hW h'1350 hl hw k6 pr lx h3 f1 f2 am hat ht wkp half hw0 lw0 hw0w at0 eH hZ hi h'1406 hl4 hv4 hj4 e0 tb tm e20 gz fb fm pm pp fl; omega), mok 10 200 (by (clear hc g0 g1 q n0 n1 p0 p1 t0 t1 n3 period hW h'1350 hl hw k6 pr lx h3 f1 f2 am hat ht wkp half hw0 lw0 hw0w at0 eH hZ hi h'1406 hl4 hv4 hj4 e0 tb tm e20 tm2 gz fb fm pm pp fl; omega)) (by (clear hc b0 b1 g0 g1 q n0 n1 p0 p1 t0 t1 n3 period hW h'1350 hl hw k6 pr lx h3 f1 f2 am hat ht wkp half hw0 lw0 hw0w at0 eH hZ hi h'1406 hl4 hv4 hj4 e0 tb tm e20 gz fm pm pp fl; omega)) (by decide), fun p2 np2 => ?_⟩
    have hit : (i : Int) < by_ := by (clear hc q n0 n1 p0 p1 t0 t1 n3 period hW h'1350 hl hw k6 pr lx h3 f1 f2 am hat ht wkp half hw0 lw0 hw0w at0 eH hZ h'1406 hv4 hj4 e0 tb tm e20 tm2 fb fm pm pp fl gz hl4 g1 g0 b1 b0; omega)
    have gp2 := same_new np2 (.tup [.int (by_ * ti), .int ((i : Int) + by_ * (n / (13 + (i : Int)) % ti)), .int 1])
    have l4 := hP4.1
    rw [List.length_append] at l4
    refine ⟨D, ys, _, rfl, rfl, gp2 _ _ hD4, by rw [sizeLine_eq]; (clear hc g0 g1 q n0 n1 p0 p1 t0 t1 n3 period hW h'1350 hw k6 pr f1 f2 am hat ht wkp half hw0 hw0w at0 eH hZ hi h'1406 hv4 hj4 e0 tb tm e20 tm2 gz fb fm pm pp fl h3 lx b0; omega), ?_⟩
    rw [hZ]
    have hP5 := ((hP4.same gp2).snoc (p := p2) (t := (by_ * ti, (i : Int) + by_ * (n / (13 + (i : Int)) % ti), 1)) upd_same).upd (o := .lst (ys ++ [.ref p2])) (gp2 _ _ hD4)
    rw [List.append_assoc] at hP5
    refine ⟨_, _, _, vs ++ [(by_ * ti, (i : Int) + by_ * (n / (13 + (i : Int)) % ti), 1)], rfl, (g4.trans gp2).write nD _, upd_same, hP5, by simp [hl4], fun v hv => ?_, fun j u e => ?_⟩
    · rcases List.mem_append.mp hv with z | z
      · exact hv4 v z
      · rw [List.mem_singleton.mp z]
        refine ⟨⟨by show 1 ≤ by_ * ti; (clear hc b0 b1 g0 g1 q n0 n1 p0 p1 t0 t1 n3 period hW h'1350 hl hw k6 pr lx h3 f1 f2 am hat ht wkp half hw0 lw0 hw0w at0 eH hZ hi h'1406 hl4 hv4 hj4 e0 tb tm e20 tm2 gz fb fm fl hit l4 pm; omega), by show 0 ≤ (i : Int) + by_ * (n / (13 + (i : Int)) % ti); (clear hc g0 g1 q n0 n1 p0 p1 t0 t1 n3 period hW h'1350 hl hw k6 pr lx h3 f1 f2 am hat ht wkp half hw0 lw0 hw0w at0 eH hZ hi h'1406 hv4 hj4 e0 tb tm e20 tm2 gz fb pm pp fl l4 hit hl4 b1 b0; omega), by show (i : Int) + by_ * (n / (13 + (i : Int)) % ti) < by_ * ti; (clear hc b0 b1 g0 g1 q n0 n1 p0 p1 t0 t1 n3 period hW h'1350 hl hw k6 pr lx h3 f1 f2 am hat ht wkp half hw0 lw0 hw0w at0 eH hZ hi h'1406 hv4 hj4 e0 tb tm e20 tm2 gz fb fm pm pp l4 hl4; omega), by show (1 : Int) ≤ 1; (clear hc b0 b1 g0 g1 q n0 n1 p0 p1 t0 t1 n3 period hW h'1350 hl hw k6 pr lx h3 f1 f2 am hat ht wkp half hw0 lw0 hw0w at0 eH hZ hi h'1406 hl4 hv4 hj4 e0 tb tm e20 tm2 gz fb fm pm pp fl hit l4; omega), by show 1 ≤ by_ * ti; (clear hc b0 b1 g0 g1 q n0 n1 p0 p1 t0 t1 n3 period hW h'1350 hl hw k6 pr lx h3 f1 f2 am hat ht wkp half hw0 lw0 hw0w at0 eH hZ hi h'1406 hl4 hv4 hj4 e0 tb tm e20 tm2 gz fb fm fl hit l4 pm; omega)⟩, by show by_ * ti ≤ 10 ^ 60; (clear hc b0 b1 g0 g1 q n0 n1 p0 p1 t0 t1 n3 period hW h'1350 hl hw k6 pr lx h3 f1 f2 am hat ht wkp half hw0 lw0 hw0w at0 eH hZ hi h'1406 hl4 hv4 hj4 e0 tb tm e20 tm2 gz fb fm fl hit l4 pp; omega)⟩
    · by_cases hj : j < vs.length
      · rw [List.getElem?_append_left hj] at e
        exact hj4 j u e
      · have lj := (List.getElem?_eq_some_iff.mp e).1
        rw [List.length_append, List.length_singleton] at lj
        have ej : j = vs.length := by (clear hc b0 b1 g0 g1 q n0 n1 p0 p1 t0 t1 n3 period hW h'1350 hl hw k6 pr lx h3 f1 f2 am hat ht wkp half hw0 lw0 hw0w at0 eH hZ hi h'1406 hl4 hv4 hj4 e0 tb tm e20 tm2 gz fb fm pm pp fl hit l4 e; omega)
        rw [List.getElem?_append_right (by (clear hc b0 b1 g0 g1 q n0 n1 p0 p1 t0 t1 n3 period hW h'1350 hl hw k6 pr lx h3 f1 f2 am hat ht wkp half hw0 lw0 hw0w at0 eH hZ hi h'1406 hl4 hv4 hj4 e0 tb tm e20 tm2 gz fb fm pm pp fl hit l4 e ej lj; omega)), ej, Nat.sub_self] at e
        cases e
        refine ⟨rfl, ⟨ti, rfl⟩, ⟨n / (13 + (i : Int)) % ti, ?_⟩, fun z => ?_⟩
        · show (i : Int) + by_ * (n / (13 + (i : Int)) % ti) - (j : Int) = _
          rw [ej, hl4]
          (clear hc b0 b1 g0 g1 q n0 n1 p0 p1 t0 t1 n3 period hW h'1350 hl hw k6 pr lx h3 f1 f2 am hat ht wkp half hw0 lw0 hw0w at0 eH hZ hi h'1406 hl4 hv4 hj4 e0 tb tm e20 tm2 gz fb fm pm pp fl hit l4 hj lj ej; omega)
        · show by_ * ti = by_
          rw [gz z, Int.mul_one]
  · rw [hZ] at z
    refine L2.put_away fun G'1455 h'1455 => ?_
    obtain ⟨o3, o4, ys, vs, rfl, g4, hD4, hP4, hl4, hv4, hj4⟩ := z
    refine h'1455 ?_
    have l4 := hP4.1
    rw [List.length_append] at l4
    walk_at "wp"
    refine ⟨_, _, rfl, .inl (SqL.of hD4), fun r nr => ?_⟩
    have gr2 := same_new nr (.lst [.ref D, .int (at_ : Int), .int ((ys.length : Int) - by_)])
    have eb : (ys.length : Int) - by_ = ((ws.length + 1 : Nat) : Int) := by (clear hc g0 g1 q n0 n1 p0 p1 t0 t1 n3 period hW h'1350 hw k6 pr h3 f1 f2 am hat ht wkp half hw0 hw0w at0 eH hZ h'1455 hv4 hj4 lx hl b1; omega)
    rw [eb] at gr2 ⊢
    refine q r D ys (w0 ++ vs) at_ (ws.length + 1) _ (g4.trans gr2) (g4.free nr) nD upd_same (gr2 _ _ hD4) (hP4.same gr2) ⟨by rw [List.length_append]; (clear hc b0 b1 g0 g1 q n0 n1 p0 p1 t0 t1 n3 period hW h'1350 hw k6 pr h3 f1 f2 am hat ht wkp half hw0 hw0w at0 eH hZ h'1455 hv4 hj4 hl4 lw0 lx hl; omega), by (clear hc b0 b1 g0 g1 q n0 n1 p0 p1 t0 t1 n3 period hW h'1350 hw k6 pr h3 f1 f2 ht wkp half hw0 hw0w at0 eH hZ h'1455 hv4 hj4 eb l4 hl4 lw0 hat hl; omega), by (clear hc b0 b1 g0 g1 q n0 n1 p0 p1 t0 t1 n3 period hW h'1350 hw k6 pr f1 f2 am hat ht wkp half hw0 hw0w at0 eH hZ h'1455 hv4 hj4 eb l4 hl4 lw0 h3 lx; omega), fun u hu => ?_, fun u e => ?_, fun j u hj e => ?_⟩
    · rcases List.mem_append.mp hu with z | z
      · exact hw0w u z
      · exact hv4 u z
    · rw [List.getElem?_append_left (by (clear hc b0 b1 g0 g1 q n0 n1 p0 p1 t0 t1 n3 period hW h'1350 hw k6 pr h3 f1 f2 ht wkp half hw0 hw0w at0 eH hZ h'1455 hv4 hj4 eb e l4 hl4 hat hl; omega)), at0] at e
      cases e
      exact half
    · rw [List.getElem?_append_right (by (clear hc b0 b1 g0 g1 q n0 n1 p0 p1 t0 t1 n3 period hW h'1350 hw k6 pr h3 f1 f2 am hat ht wkp half hw0 hw0w at0 eH hZ h'1455 hl4 hv4 hj4 l4 eb hj e lx hl; omega)), lw0, Nat.add_sub_cancel_left] at e
      exact hj4 j u e

noncomputable def sp_round : Sp := fun vs H Q _ => ∃ (p1 p2 : Addr) (u v : T3), vs = [.ref p1, .ref p2] ∧ H p1 = some (tupW u) ∧ H p2 = some (tupW v) ∧ 1 ≤ u.1 ∧ 1 ≤ v.1 ∧ u.1 ≤ 10 ^ 60 ∧ v.1 ≤ 10 ^ 60 ∧ Q (.int (lcms [u.1, v.1])) H
theorem h_law_round (T : TF K mg "_law_round" s_law_round) (G_law_divisor : Has P w K mg base 1 "_law_divisor" ["one", "other"] sp_law_divisor) : Has P w K mg base 2 "_law_round" ["one", "other"] sp_round := by
  refine T.has sc_law_round (fun _ _ _ _ _ _ => L2.bnd2 fun _ _ => rfl) (fun vs H Q E h => ?_) (fun f cdv A outer s H vs Q E hr h => ?_)
  · refine L2.put_away fun G'1476 h'1476 => ?_
    obtain ⟨p1, p2, u, v, rfl, _⟩ := h
    refine h'1476 ?_
    rfl
  refine L2.put_away fun G'1478 h'1478 => ?_
  obtain ⟨p1, p2, u, v, rfl, h1, h2, u1, v1, u2, v2, q⟩ := h
  refine h'1478 ?_
  refine ⟨_, (pss_one (ps_ret (pe_op op_mulA (pe_op op_fdivA (pe_ix ix_tup (pv 0) pe_int (fun _ _ => rfl)) (pe_def (G_law_divisor.mono (by first | decide | omega)) hr (pa_cons (pe_ix ix_tup (pv 0) pe_int (fun _ _ => rfl)) (pa_cons (pe_ix ix_tup (pv 1) pe_int (fun _ _ => rfl)) pa_nil)))) (pe_ix ix_tup (pv 1) pe_int (fun _ _ => rfl))))), ?_⟩
  have T1 : SqT K H p1 [.int u.1, .int u.2.1, .int u.2.2] := SqT.of h1
  have T2 : SqT K H p2 [.int v.1, .int v.2.1, .int v.2.2] := SqT.of h2
  have gp := gcdI_pos (a := u.1) (b := v.1) (by (clear v1 v2 u2; omega))
  have gl := gcdI_le_left v.1 (show 0 < u.1 by (clear v1 v2 gp u2; omega))
  walk_at "wp"
  refine ⟨_, _, _, .int u.1, rfl, rfl, T1, rfl, ?_⟩
  refine ⟨_, _, _, .int u.1, rfl, rfl, T1, rfl, ?_⟩
  refine ⟨_, _, _, .int v.1, rfl, rfl, T2, rfl, ?_⟩
  refine ⟨_, _, rfl, by (clear v1 v2 gp gl u2; omega), by (clear u1 u2 gp gl v2; omega), ?_⟩
  walk_at "wp"
  have d0 := Int.ediv_nonneg (show 0 ≤ u.1 by (clear v1 v2 gp gl u2; omega)) (show 0 ≤ gcdI u.1 v.1 by (clear u1 v1 u2 v2 gl; omega))
  have d1 := Int.ediv_le_self (gcdI u.1 v.1) (show 0 ≤ u.1 by (clear v1 v2 gp gl d0 u2; omega))
  refine ⟨divA 400 gp (by (clear v1 v2 d0 d1 u1; omega)) (by decide), _, _, _, .int v.1, rfl, rfl, T2, rfl, ?_⟩
  walk_at "wp"
  refine ⟨mok 400 400 (by (clear v1 v2 gp gl u1; omega)) (by (clear u1 u2 gp gl d0 d1; omega)) (by decide), ?_⟩
  rw [prd_eq u1 v1]
  exact q

end
end SMk63
namespace SMk63
open PySem L2 SM
section
variable {P : Program} {w : World} {K : PySem.W.Frag} {mg : Str → Option Value} {base : Heap}
theorem part_iff {by_ : Int} {u v : T3} {c cm cy s r : Int} (b2 : 2 ≤ by_) (u1 : 1 ≤ u.1) (v1 : 1 ≤ v.1) (lu : u.2.2 = 1) (lv : v.2.2 = 1) (du : by_ ∣ u.1) (dv : by_ ∣ v.1) (e : u.1 = by_ ∨ v.1 = by_) (fu : by_ ∣ u.2.1 - cm) (fv : by_ ∣ v.2.1 - cy) (hm : by_ ∣ cm - (c + cy)) (s1 : 1 ≤ s) (ds : by_ ∣ s) : liesB (sh2 u v) s r = true ↔ by_ ∣ r - c := by
  have gp := gcdI_pos (a := u.1) (b := v.1) (by (clear b2 v1 lu lv du dv e fu fv hm s1 ds; omega))
  have g : gcdI u.1 v.1 = by_ := by
    refine pos_dvd_antisymm (by (clear b2 u1 v1 lu lv du dv e fu fv hm s1 ds; omega)) (by (clear u1 v1 lu lv du dv e fu fv hm s1 ds gp; omega)) ?_ (dvd_gcdI du dv)
    rcases e with e | e
    · rw [← e]
      exact gcdI_dvd_left _ _
    · rw [← e]
      exact gcdI_dvd_right _ _
  have gg : gcdI s by_ = by_ := pos_dvd_antisymm (by have := gcdI_pos (a := s) (b := by_) (by (clear b2 u1 v1 lu lv du dv e fu fv hm ds gp g; omega)); (clear b2 u1 v1 lu lv du dv e fu fv hm s1 ds gp g; omega)) (by (clear u1 v1 lu lv du dv e fu fv hm s1 ds gp g; omega)) (gcdI_dvd_right _ _) (dvd_gcdI ds (Int.dvd_refl _))
  unfold liesB
  rw [decide_eq_true_eq]
  simp only [sh2]
  rw [lu, lv, g, gg, if_pos (by (clear u1 v1 lu lv du dv e fu fv hm s1 ds gp gg g; omega))]
  obtain ⟨x, hx⟩ := fu
  obtain ⟨y, hy⟩ := fv
  obtain ⟨z, hz⟩ := hm
  have e1 := Int.mul_ediv_add_emod (u.2.1 - v.2.1 - (1 - 1)) by_
  generalize (u.2.1 - v.2.1 - (1 - 1)) % by_ = F at *
  generalize (u.2.1 - v.2.1 - (1 - 1)) / by_ = G at *
  have mb := modB (r - F - (1 + 1 - 1)) (show 0 < by_ by (clear u1 v1 lu lv du dv e s1 ds gp hx hy hz e1 gg g; omega))
  have e2 := Int.mul_ediv_add_emod (r - F - (1 + 1 - 1)) by_
  constructor
  · intro h
    refine ⟨(r - F - (1 + 1 - 1)) / by_ + 1 - G + (x + z - y), ?_⟩
    rw [Int.mul_add, Int.mul_sub, Int.mul_add, Int.mul_sub, Int.mul_add, Int.mul_one]
    (clear b2 u1 v1 lu lv du dv e s1 ds gp gg g; omega)
  · rintro ⟨k, hk⟩
    have : (r - F - (1 + 1 - 1)) % by_ = by_ - 1 := by
      refine mod_of (by (clear u1 v1 lu lv du dv e s1 ds gp hx hy hz e1 mb e2 hk gg g; omega)) (by (clear b2 u1 v1 lu lv du dv e s1 ds gp g gg hx hy hz e1 mb e2 hk; omega)) ⟨k + G - (x + z - y) - 1, ?_⟩
      rw [Int.mul_sub, Int.mul_sub, Int.mul_add, Int.mul_sub, Int.mul_add, Int.mul_one]
      (clear b2 u1 v1 lu lv du dv e s1 ds gp g gg mb e2; omega)
    (clear b2 u1 v1 lu lv du dv e s1 ds gp hx hy hz e1 mb e2 hk gg g; omega)
noncomputable def Leaf (zs : List T3) (by_ : Int) (c : Nat) (p : Pap) : Prop := (∃ k, p = .inn k) ∧ ∀ s r : Int, 1 ≤ s → by_ ∣ s → (rightB zs s r p = true ↔ by_ ∣ r - c)
theorem leaf_row {by_ g1 g2 : Int} {ws us : List T3} {a1 b1 a2 b2 : Nat} (y0 : 2 ≤ by_) (W1 : Row by_ g1 ws a1 b1) (W2 : Row by_ g2 us a2 b2) (hg : g1 = 0 ∨ g2 = 0) {c cm cy : Nat} (h1 : (cm : Int) < by_) (h2 : (cy : Int) < by_) (hm : by_ ∣ (cm : Int) - (c + cy)) : Leaf (shs ws us) by_ c (.inn (((b1 + cm) * us.length + (b2 + cy) : Nat) : Int)) := by
  have l1 := W1.len
  have l2 := W2.len
  have hi1 : b1 + cm < ws.length := by (clear y0 hg h2 hm l2; omega)
  have hi2 : b2 + cy < us.length := by (clear y0 hg h1 hm hi1 l1; omega)
  obtain ⟨n1, n2⟩ := shs_name hi1 hi2
  refine ⟨⟨_, rfl⟩, fun s r s1 ds => ?_⟩
  unfold rightB
  rw [Int.toNat_natCast, n2, shs_len, decide_eq_true (Int.natCast_nonneg _), decide_eq_true (Int.ofNat_lt.mpr n1), Bool.true_and, Bool.true_and]
  have u1 := W1.parts cm _ h1 (List.getElem?_eq_getElem hi1)
  have u2 := W2.parts cy _ h2 (List.getElem?_eq_getElem hi2)
  have k1 := (W1.wk _ (List.getElem_mem hi1)).1.1
  have k2 := (W2.wk _ (List.getElem_mem hi2)).1.1
  exact part_iff y0 k1 k2 u1.1 u2.1 u1.2.1 u2.2.1 (hg.elim (fun z => .inl (u1.2.2.2 z)) fun z => .inr (u2.2.2.2 z)) u1.2.2.1 u2.2.2.1 hm s1 ds
theorem leaves_right {zs : List T3} {by_ s : Int} (y0 : 2 ≤ by_) (s1 : 1 ≤ s) {ps : List Pap} (h : ∀ (c : Nat) p, ps[c]? = some p → Leaf zs by_ c p) : rightsB zs 1 0 by_ 0 ps = true := by
  have gen : ∀ (qs : List Pap) (c : Nat), (∀ (i : Nat) p, qs[i]? = some p → Leaf zs by_ (c + i) p) → rightsB zs 1 0 by_ c qs = true := fun qs => by
    induction qs with
    | nil => intro c _; unfold rightsB; rfl
    | cons q qs ih =>
      intro c hq
      unfold rightsB
      have h0 := hq 0 q rfl
      rw [(h0.2 (1 * by_) (0 + 1 * c) (by (clear s1 h ih hq; omega)) (by rw [Int.one_mul]; exact Int.dvd_refl _)).mpr ⟨0, by simp⟩, ih (c + 1) fun i p e => by
        have := hq (i + 1) p (by simpa using e)
        rw [show c + (i + 1) = c + 1 + i by (clear y0 s1 h ih hq e; omega)] at this
        exact this]
      rfl
  exact gen ps 0 fun i p e => by rw [Nat.zero_add]; exact h i p e
noncomputable def BadP (zs : List T3) (w : Pap) : Prop := rightB zs 1 0 w = false ∧ rightB zs 2 1 w = false
theorem leaves_wrong {zs : List T3} {by_ : Int} (y0 : 2 ≤ by_) {ps : List Pap} (hl : (ps.length : Int) = by_) (h : ∀ (c : Nat) p, ps[c]? = some p → Leaf zs by_ c p) : BadP zs (.par by_ (ps.drop 1 ++ ps.take 1)) := by
  have two : ∀ {z : Int}, by_ ∣ z → (z = 1 ∨ z = -1) → False := fun {z} d e => by
    obtain ⟨k, hk⟩ := d
    have b : by_ ∣ 1 := by
      rcases e with e | e
      · exact ⟨k, by (clear y0 hl h; omega)⟩
      · exact ⟨-k, by rw [Int.mul_neg]; (clear y0 hl h; omega)⟩
    have := Int.le_of_dvd (by decide) b
    (clear h e hk b hl; omega)
  have lp : 2 ≤ ps.length := by (clear h two; omega)
  have l1 : (ps.drop 1).length = ps.length - 1 := List.length_drop
  have q0 : (ps.drop 1 ++ ps.take 1)[0]? = some (ps[1]'(by (clear h two lp l1; omega))) := by
    rw [List.getElem?_append_left (by (clear h two lp; omega)), List.getElem?_drop, List.getElem?_eq_getElem (by (clear h two lp l1; omega))]
  have f1 := h 1 _ (List.getElem?_eq_getElem (show 1 < ps.length by (clear h two lp l1 q0; omega)))
  refine ⟨?_, ?_⟩
  · unfold rightB
    rw [rightsB_false q0 ?_, Bool.and_false, Bool.and_false]
    rw [Bool.eq_false_iff]
    intro z
    exact two ((f1.2 _ _ (by (clear h two lp l1 q0 z; omega)) (by rw [Int.one_mul]; exact Int.dvd_refl _)).mp z) (.inr (by simp))
  · unfold rightB
    have q1 : ∃ (c : Nat) (p : Pap), (ps.drop 1 ++ ps.take 1)[1]? = some p ∧ ps[c]? = some p ∧ (c = 2 ∨ by_ = 2 ∧ c = 0) := by
      by_cases c : ps.length = 2
      · refine ⟨0, ps[0]'(by (clear h two lp l1 q0 c; omega)), ?_, List.getElem?_eq_getElem (by (clear h two lp l1 q0 c; omega)), .inr ⟨by (clear h two lp l1 q0; omega), rfl⟩⟩
        have e1 : 1 - (ps.length - 1) = 0 := by (clear h two lp q0 c l1; omega)
        rw [List.getElem?_append_right (by (clear h two lp q0 e1; omega)), l1, e1, List.getElem?_take, if_pos (by decide)]
        exact List.getElem?_eq_getElem (by (clear h two lp l1 q0 e1 c; omega))
      · refine ⟨2, ps[2]'(by (clear h two lp l1 q0; omega)), ?_, List.getElem?_eq_getElem (by (clear h two lp l1 q0; omega)), .inl rfl⟩
        rw [List.getElem?_append_left (by (clear h two lp q0; omega)), List.getElem?_drop, List.getElem?_eq_getElem (by (clear h two lp l1 q0; omega))]
    refine L2.put_away fun G'1598 h'1598 => ?_
    obtain ⟨c, p, e1, e2, ec⟩ := q1
    refine h'1598 ?_
    rw [rightsB_false e1 ?_, Bool.and_false, Bool.and_false]
    rw [Bool.eq_false_iff]
    intro z
    have d := ((h c p e2).2 _ _ (by (clear h two lp l1 q0 h'1598 e1 e2 ec z; omega)) ⟨2, by (clear h two lp l1 q0 h'1598 e1 e2 ec z; omega)⟩).mp z
    rcases ec with rfl | ⟨ey, rfl⟩
    · exact two d (.inl (by simp))
    · rw [ey] at d
      obtain ⟨k, hk⟩ := d
      simp at hk
      (clear h two lp l1 q0 h'1598 e1 z ey e2; omega)
theorem prd_name {ws us : List T3} {i j : Nat} (hi : i < ws.length) (hj : j < us.length) : prd ws us ((i * us.length + j : Nat) : Int) = lcms [ws[i].1, us[j].1] := by
  have n0 : 0 < us.length := by (clear hi; omega)
  unfold prd
  have ed : (((i * us.length + j : Nat) : Int) / (us.length : Int)).toNat = i := by
    rw [← Int.natCast_ediv, Int.toNat_natCast, Nat.mul_comm, Nat.mul_add_div n0, Nat.div_eq_of_lt hj]
    rfl
  have em : (((i * us.length + j : Nat) : Int) % (us.length : Int)).toNat = j := by
    rw [← Int.natCast_emod, Int.toNat_natCast, Nat.mul_comm, Nat.mul_add_mod, Nat.mod_eq_of_lt hj]
  rw [ed, em, List.getD_eq_getElem?_getD, List.getElem?_eq_getElem hi, List.getD_eq_getElem?_getD, List.getElem?_eq_getElem hj]
  rfl
theorem isMx_snoc {f : Int → Int} {ns : List Int} {w k : Int} (h : IsMx f ns w) : IsMx f (ns ++ [k]) (if f k > w then f k else w) := by
  refine L2.put_away fun G'1620 h'1620 => ?_
  obtain ⟨⟨j, hj, ej⟩, hb⟩ := h
  refine h'1620 ?_
  by_cases c : f k > w
  · rw [if_pos c]
    refine ⟨⟨k, by simp, rfl⟩, fun i hi => ?_⟩
    rcases List.mem_append.mp hi with z | z
    · have := hb i z
      (clear h'1620 hb ej; omega)
    · rw [List.mem_singleton.mp z]
      exact Int.le_refl _
  · rw [if_neg c]
    refine ⟨⟨j, List.mem_append_left _ hj, ej⟩, fun i hi => ?_⟩
    rcases List.mem_append.mp hi with z | z
    · exact hb i z
    · rw [List.mem_singleton.mp z]
      (clear h'1620 hb ej; omega)
theorem isMx_one {f : Int → Int} {k : Int} : IsMx f [k] (f k) := ⟨⟨k, by simp, rfl⟩, fun i hi => by rw [List.mem_singleton.mp hi]; exact Int.le_refl _⟩
theorem nms_append : ∀ (ps qs : List Pap), Pap.nms (ps ++ qs) = Pap.nms ps ++ Pap.nms qs
  | [], qs => rfl
  | p :: ps, qs => by
    simp only [List.cons_append, Pap.nms, nms_append ps qs, List.append_assoc]
theorem prd_dvd63 {a b : Int} (ha : 1 ≤ a) (hb : 1 ≤ b) : 0 < lcms [a, b] := by
  have h : ∀ x ∈ [a, b], 1 ≤ x := fun x hx => by
    simp only [List.mem_cons, List.not_mem_nil, or_false] at hx
    rcases hx with rfl | rfl <;> assumption
  have := lcms_pos h
  (clear ha hb h; omega)
theorem cutV_take63 (xs : List V) (n : Nat) : cutV xs none (some (n : Int)) = xs.take n := by
  unfold cutV
  have e1 : HT.sIx xs.length 0 none = 0 := rfl
  have e2 : HT.sIx xs.length xs.length (some (n : Int)) = min n xs.length := by
    unfold HT.sIx
    simp only
    split <;> (clear e1; omega)
  rw [e1, e2, List.drop_zero, Nat.sub_zero]
  by_cases c : n ≤ xs.length
  · rw [Nat.min_eq_left c]
  · rw [Nat.min_eq_right (by (clear e1 e2; omega)), List.take_of_length_le (Nat.le_refl _), List.take_of_length_le (by (clear e1 e2; omega))]
theorem PapsIn.dropP {K : PySem.W.Frag} {N : Addr → Prop} {H : Hp} : ∀ {xs : List V} {ps : List Pap} (n : Nat), PapsIn K N H xs ps → PapsIn K N H (xs.drop n) (ps.drop n)
  | _, _, 0, h => by simpa using h
  | _, _, _ + 1, .nil => .nil
  | _, _, n + 1, .cons _ hs => by simpa using PapsIn.dropP n hs
theorem PapsIn.takeP {K : PySem.W.Frag} {N : Addr → Prop} {H : Hp} : ∀ {xs : List V} {ps : List Pap} (n : Nat), PapsIn K N H xs ps → PapsIn K N H (xs.take n) (ps.take n)
  | _, _, 0, _ => .nil
  | _, _, _ + 1, .nil => .nil
  | _, _, n + 1, .cons h hs => by simpa using PapsIn.cons h (PapsIn.takeP n hs)
noncomputable def Trio (K : PySem.W.Frag) (N : Addr → Prop) (H : Hp) (r : Addr) (ws us : List T3) : Prop := ∃ (v1 v2 : V) (p q : Pap) (wt : Int), H r = some (.lst [v1, .int wt, v2]) ∧ PapIn K N H v1 p ∧ PapIn K N H v2 q ∧ p.dep ≤ 1 ∧ p.kn ≤ 5 ∧ q.dep ≤ 1 ∧ q.kn ≤ 5 ∧ rightB (shs ws us) 1 0 p = true ∧ IsMx (prd ws us) p.nm wt ∧ BadP (shs ws us) q
noncomputable def sp_trio (K : PySem.W.Frag) : Sp := fun vs H Q _ => ∃ (n by_ g1 g2 : Int) (r1 r2 : Addr) (ws us : List T3) (a1 b1 a2 b2 : Nat), vs = [.int n, .ref r1, .ref r2, .int by_] ∧ 0 ≤ n ∧ 2 ≤ by_ ∧ by_ ≤ 4 ∧ (g1 = 0 ∨ g2 = 0) ∧ RowAt H r1 by_ g1 ws a1 b1 ∧ RowAt H r2 by_ g2 us a2 b2 ∧ ∀ (r : Addr) (H' : Hp), Same H H' → H r = none → Trio K (fun l => H l = none) H' r ws us → Q (.ref r) H'
noncomputable def sp_trioC (K : PySem.W.Frag) : Sp := fun vs H Q _ => ∃ (n by_ g1 g2 : Int) (r1 r2 : Addr) (ws us : List T3) (a1 b1 a2 b2 : Nat), vs = [.int n, .ref r1, .ref r2, .int by_] ∧ Builtin.Int.intBits n ≤ 2 ^ 21 ∧ 2 ≤ by_ ∧ by_ ≤ 4 ∧ (g1 = 0 ∨ g2 = 0) ∧ RowAt H r1 by_ g1 ws a1 b1 ∧ RowAt H r2 by_ g2 us a2 b2 ∧ ∀ (r : Addr) (H' : Hp), Same H H' → H r = none → Trio K (fun l => H l = none) H' r ws us → Q (.ref r) H'
theorem h_law_by_parts (T : TF K mg "_law_by_parts" s_law_by_parts) (m_len : mg "len" = none) (m_range : mg "range" = none) (m_max : mg "max" = none) (G_law_round : Has P w K mg base 2 "_law_round" ["one", "other"] sp_round) : Has P w K mg base 3 "_law_by_parts" ["number", "one", "other", "by"] (sp_trio K) := by
  refine T.has sc_law_by_parts (fun _ _ _ _ _ _ => L2.bnd4 fun _ _ _ _ => rfl) (fun vs H Q E h => ?_) (fun f cdv A outer s H vs Q E hr h => ?_)
  · refine L2.put_away fun G'1671 h'1671 => ?_
    obtain ⟨n, by_, g1, g2, r1, r2, ws, us, a1, b1, a2, b2, rfl, _⟩ := h
    refine h'1671 ?_
    rfl
  refine L2.put_away fun G'1673 h'1673 => ?_
  obtain ⟨n, by_, g1, g2, r1, r2, ws, us, a1, b1, a2, b2, rfl, n0, y0, y1, hg, R1, R2, q⟩ := h
  refine h'1673 ?_
  refine ⟨_, (pss_cons (ps_set (i := 4) sc_law_by_parts.nd rfl (Or.inl rfl) (pe_lst pa_nil)) (pss_cons (ps_set (i := 5) sc_law_by_parts.nd rfl (Or.inl rfl) pe_int) (pss_cons (ps_for PassesOwn.never rfl (pi_range1 rfl m_range (pa_cons (pv 3) pa_nil)) (pg_name (i := 6) sc_law_by_parts.nd rfl (Or.inl rfl)) (pss_cons (ps_set (i := 7) sc_law_by_parts.nd rfl (Or.inl rfl) (pe_op op_add (pe_ix ix_list (pv 2) pe_int (fun _ _ => rfl)) (pe_op op_mod (pe_op op_fdivA (pv 0) (pe_op op_add pe_int (pe_op op_mulA pe_int (pv 6)))) (pv 3)))) (pss_cons (ps_set (i := 8) sc_law_by_parts.nd rfl (Or.inl rfl) (pe_op op_add (pe_ix ix_list (pv 1) pe_int (fun _ _ => rfl)) (pe_op op_mod (pe_op op_sub (pe_op op_add (pv 6) (pv 7)) (pe_ix ix_list (pv 2) pe_int (fun _ _ => rfl))) (pv 3)))) (pss_cons (ps_expr (pe_bm PySem.F.plainAttrs_list PySem.F.slot_list_append PySem.F.type_list_append mt_append (pv 4) (pa_cons (pe_tup (pa_cons pe_str (pa_cons (pe_op op_add (pe_op op_mulA (pv 8) (pe_callB call_len_seq rfl m_len PySem.boot_len (pa_cons (pe_ix ix_list (pv 2) pe_int (fun _ _ => rfl)) pa_nil))) (pv 7)) pa_nil))) pa_nil))) (pss_one (ps_set (i := 5) sc_law_by_parts.nd rfl (Or.inl rfl) (pe_callB (call_max2 rfl) rfl m_max (by decide +kernel) (pa_cons (pv 5) (pa_cons (pe_def (G_law_round.mono (by first | decide | omega)) hr (pa_cons (pe_ix ix_list (pe_ix ix_list (pv 1) pe_int (fun _ _ => rfl)) (pv 8) (fun _ _ => rfl)) (pa_cons (pe_ix ix_list (pe_ix ix_list (pv 2) pe_int (fun _ _ => rfl)) (pv 7) (fun _ _ => rfl)) pa_nil))) pa_nil))))))))) (pss_one (ps_ret (pe_lst (pa_cons (pe_tup (pa_cons pe_str (pa_cons (pv 3) (pa_cons (pv 4) pa_nil)))) (pa_cons (pv 5) (pa_cons (pe_tup (pa_cons pe_str (pa_cons (pv 3) (pa_cons (pe_op op_cat (pe_slice sl_list (pv 4) (po_some pe_int) po_none) (pe_slice sl_list (pv 4) po_none (po_some pe_int))) pa_nil)))) pa_nil))))))))), ?_⟩
  refine L2.put_away fun G'1675 h'1675 => ?_
  obtain ⟨L1, xs1, hr1, hL1, hP1, W1⟩ := R1
  refine h'1675 ?_
  refine L2.put_away fun G'1676 h'1676 => ?_
  obtain ⟨LB, xs2, hr2, hL2, hP2, W2⟩ := R2
  refine h'1676 ?_
  have lx1 := hP1.1
  have ly := hP2.1
  have l1 := W1.len
  have l2 := W2.len
  have o1 := W1.low
  have o2 := W2.low
  have w3 := W1.few
  have w4 := W2.few
  walk_at "wp"
  intro D nD
  have gD := same_new nD (.lst [])
  have hD := upd_same (H := H) (a := D) (o := .lst [])
  generalize upd H D (.lst []) = H1 at gD hD ⊢
  refine ⟨_, rfl, by (clear n0 hg h'1675 hr1 h'1676 hr2 lx1 ly o1 o2 w3 w4 l2 l1 y1; omega), by (clear n0 hg h'1675 hr1 h'1676 hr2 lx1 ly o1 o2 w3 w4 l2 l1 y0; omega), ?_⟩
  obtain ⟨W, hW⟩ : ∃ W : Nat → St → Hp → Prop, W = fun i σ H2 => ∃ (o1 o2 o3 : Option V) (wt : Int) (xs : List V) (ps : List Pap), σ = [some (.int n), some (.ref r1), some (.ref r2), some (.int by_), some (.ref D), some (.int wt), o1, o2, o3] ∧ Same H H2 ∧ H2 D = some (.lst xs) ∧ PapsIn K (fun l => H l = none ∧ l ≠ D) H2 xs ps ∧ ps.length = i ∧ (∀ p ∈ ps, p.dep = 0 ∧ p.kn = 1) ∧ (∀ (c : Nat) p, ps[c]? = some p → Leaf (shs ws us) by_ c p) ∧ (i = 0 → wt = 0) ∧ (0 < i → IsMx (prd ws us) (Pap.nms ps) wt) := ⟨_, rfl⟩
  refine forW_range W ?_ (fun i σ H2 hi z => ?_) (fun σ H2 z => ?_)
  · rw [hW]
    exact ⟨none, none, none, 0, [], [], rfl, gD, hD, .nil, rfl, (fun p hp => nomatch hp), (fun c p e => by simp at e), fun _ => rfl, fun e => absurd e (Nat.lt_irrefl _)⟩
  · rw [hW] at z
    refine L2.put_away fun G'1696 h'1696 => ?_
    obtain ⟨p1, p2, p3, wt, xs, ps, rfl, g, hD2, hps, hpl, hpk, hlf, hw0, hw1⟩ := z
    refine h'1696 ?_
    have e0 : (0 : Int) + (i : Int) = i := by (clear n0 y0 y1 hg h'1675 hr1 h'1676 hr2 lx1 ly l1 l2 o1 o2 w3 w4 hW hi h'1696 hpl hpk hlf hw0 hw1; omega)
    rw [e0]
    have hib : (i : Int) < by_ := by (clear n0 hg h'1675 hr1 h'1676 hr2 lx1 ly o1 o2 w3 w4 hW h'1696 hpk hlf e0 hw1 hw0 hpl l2 l1 y1 y0; omega)
    have cyb := modB (n / (5 + 7 * (i : Int))) (show 0 < by_ by (clear n0 hg h'1675 hr1 h'1676 hr2 lx1 ly o1 o2 w3 w4 hW hi h'1696 hpl hpk hlf hw0 hw1 e0 hib l2 l1 y1; omega))
    obtain ⟨cy, hcy⟩ : ∃ cy : Nat, n / (5 + 7 * (i : Int)) % by_ = (cy : Int) := ⟨_, (Int.toNat_of_nonneg cyb.1).symm⟩
    rw [hcy] at cyb
    have cmb := modB ((i : Int) + ((b2 : Int) + (cy : Int)) - (b2 : Int)) (show 0 < by_ by (clear n0 hg h'1675 hr1 h'1676 hr2 lx1 ly o1 o2 w3 w4 hW hi h'1696 hpl hpk hlf hw0 hw1 e0 hib cyb hcy l2 l1 y1; omega))
    obtain ⟨cm, hcm⟩ : ∃ cm : Nat, ((i : Int) + ((b2 : Int) + (cy : Int)) - (b2 : Int)) % by_ = (cm : Int) := ⟨_, (Int.toNat_of_nonneg cmb.1).symm⟩
    have dcm := mod_dvd ((i : Int) + ((b2 : Int) + (cy : Int)) - (b2 : Int)) by_
    rw [hcm] at cmb dcm
    walk_at "wp"
    refine rIxL_mk (SqL.of (g _ _ hr2)) (v := .int (b2 : Int)) rfl ?_
    walk_at "wp"
    refine ⟨mokS (by (clear n0 y0 y1 hg h'1675 hr1 h'1676 hr2 lx1 ly l1 l2 o1 o2 w3 w4 hW hi h'1696 hpk hlf hw0 hw1 e0 hib cyb hcy cmb hcm dcm hpl; omega)) (by (clear n0 hg h'1675 hr1 h'1676 hr2 lx1 ly o1 o2 w3 w4 hW hi h'1696 hpk hlf hw0 hw1 e0 cyb hcy cmb hcm dcm hpl l2 l1 y0; omega)), divA 20 (by (clear n0 y0 y1 hg h'1675 hr1 h'1676 hr2 lx1 ly l1 l2 o1 o2 w3 w4 hW hi h'1696 hpk hlf hw0 hw1 e0 hib cyb hcy cmb hcm dcm hpl; omega)) (by (clear n0 hg h'1675 hr1 h'1676 hr2 lx1 ly o1 o2 w3 w4 hW hi h'1696 hpk hlf hw0 hw1 e0 cyb hcy cmb hcm dcm hpl l2 l1 y0; omega)) (by decide), by (clear n0 hg h'1675 hr1 h'1676 hr2 lx1 ly o1 o2 w3 w4 hW hi h'1696 hpl hpk hlf hw0 hw1 e0 hib cyb hcy cmb hcm dcm l2 l1 y1; omega), ?_⟩
    rw [hcy]
    refine rIxL_mk (SqL.of (g _ _ hr1)) (v := .int (b1 : Int)) rfl (rIxL_mk (SqL.of (g _ _ hr2)) (v := .int (b2 : Int)) rfl ?_)
    walk_at "wp"
    rw [hcm]
    refine ⟨by (clear n0 hg h'1675 hr1 h'1676 hr2 lx1 ly o1 o2 w3 w4 hW hi h'1696 hpl hpk hlf hw0 hw1 e0 hib cyb hcy cmb hcm dcm l2 l1 y1; omega), .inl ⟨rfl, _, SqL.of hD2⟩, rIxL_mk (SqL.of (g _ _ hr2)) (v := .ref LB) rfl ⟨_, _, rfl, .inl (SqL.of (g _ _ hL2)), ?_⟩⟩
    rw [ly]
    walk_at "wp"
    refine ⟨mokS (by (clear n0 y0 y1 hg h'1675 hr1 h'1676 hr2 lx1 l1 l2 o1 o2 w3 w4 hW hi h'1696 hpl hpk hlf hw0 hw1 e0 hib cyb hcy cmb hcm dcm ly; omega)) (by (clear n0 hg h'1675 hr1 h'1676 hr2 lx1 ly o1 o2 w3 hW hi h'1696 hpl hpk hlf hw0 hw1 e0 hib cyb hcy cmb hcm dcm l1 y0; omega)), fun t nt => ?_⟩
    have en : ((b1 : Int) + (cm : Int)) * (us.length : Int) + ((b2 : Int) + (cy : Int)) = (((b1 + cm) * us.length + (b2 + cy) : Nat) : Int) := by simp
    rw [en]
    have gt := same_new nt (.tup [V.str "in", .int (((b1 + cm) * us.length + (b2 + cy) : Nat) : Int)])
    have hDt := gt _ _ hD2
    have lx := hps.len
    refine ⟨D, xs, _, rfl, rfl, hDt, by rw [sizeLine_eq, lx, hpl]; (clear n0 hg h'1675 hr1 h'1676 hr2 lx1 ly o1 o2 w3 w4 hW hi h'1696 hpk hlf hw0 hw1 e0 cyb hcy cmb hcm dcm en hDt lx hpl l2 l1 y0; omega), ?_⟩
    have np : PapIn K (fun l => H l = none ∧ l ≠ D) (upd H2 t (.tup [V.str "in", .int (((b1 + cm) * us.length + (b2 + cy) : Nat) : Int)])) (.ref t) (.inn (((b1 + cm) * us.length + (b2 + cy) : Nat) : Int)) := .inn upd_same
    have hps3 := ((hps.mono gt).snoc np).write (o := .lst (xs ++ [.ref t])) hDt fun l hl => hl.2
    have g3 : Same H (upd (upd H2 t (.tup [V.str "in", .int (((b1 + cm) * us.length + (b2 + cy) : Nat) : Int)])) D (.lst (xs ++ [.ref t]))) := (g.trans gt).write nD _
    have hD3 := upd_same (H := upd H2 t (.tup [V.str "in", .int (((b1 + cm) * us.length + (b2 + cy) : Nat) : Int)])) (a := D) (o := .lst (xs ++ [.ref t]))
    generalize upd (upd H2 t (.tup [V.str "in", .int (((b1 + cm) * us.length + (b2 + cy) : Nat) : Int)])) D (.lst (xs ++ [.ref t])) = H3 at hps3 g3 hD3 ⊢
    have hi1 : b1 + cm < ws.length := by (clear n0 y0 y1 hg h'1675 hr1 h'1676 hr2 lx1 ly o1 o2 w3 w4 hW hi h'1696 hpl hpk hlf hw0 hw1 e0 hib cyb hcy dcm en hDt lx hcm l2; omega)
    have hi2 : b2 + cy < us.length := by (clear n0 y0 y1 hg h'1675 hr1 h'1676 hr2 lx1 ly o1 o2 w3 w4 hW hi h'1696 hpl hpk hlf hw0 hw1 e0 hib cmb hcm dcm en hDt lx hi1 hcy l1; omega)
    refine L2.put_away fun G'1732 h'1732 => ?_
    obtain ⟨s1, t1, e1, f1, m1, z1⟩ := (hP1.same g3).ix (i := (b1 : Int) + (cm : Int)) (by (clear n0 y0 y1 hg h'1675 hr1 h'1676 hr2 lx1 ly l1 l2 o1 o2 w4 hW hi h'1696 hpl hpk hlf hw0 hw1 e0 hib cyb hcy dcm en hDt lx hi1 hi2 h'1732 hcm cmb w3; omega)) (by (clear n0 y0 y1 hg h'1675 hr1 h'1676 hr2 lx1 ly o1 o2 w3 w4 hW hi h'1696 hpl hpk hlf hw0 hw1 e0 hib cyb hcy dcm en hDt lx hi1 hi2 h'1732 hcm l2; omega))
    refine h'1732 ?_
    refine L2.put_away fun G'1733 h'1733 => ?_
    obtain ⟨s2, t2, e2, f2, m2, z2⟩ := (hP2.same g3).ix (i := (b2 : Int) + (cy : Int)) (by (clear n0 y0 y1 hg h'1675 hr1 h'1676 hr2 lx1 ly l1 l2 o1 w3 w4 hW hi h'1696 hpl hpk hlf hw0 hw1 e0 hib cmb hcm dcm en hDt lx hi1 hi2 h'1732 e1 f1 h'1733 hcy cyb o2; omega)) (by (clear n0 y0 y1 hg h'1675 hr1 h'1676 hr2 lx1 ly o1 o2 w3 w4 hW hi h'1696 hpl hpk hlf hw0 hw1 e0 hib cmb hcm dcm en hDt lx hi1 hi2 h'1732 e1 f1 h'1733 hcy l1; omega))
    refine h'1733 ?_
    have k1 := W1.wk t1 m1
    have k2 := W2.wk t2 m2
    walk_at "wp"
    refine rIxL_mk (SqL.of (g3 _ _ hr1)) (v := .ref L1) rfl (rIxL_mk (SqL.of (g3 _ _ hL1)) e1 (rIxL_mk (SqL.of (g3 _ _ hr2)) (v := .ref LB) rfl (rIxL_mk (SqL.of (g3 _ _ hL2)) e2 ⟨s1, s2, t1, t2, rfl, z1, z2, k1.1.1, k2.1.1, k1.2, k2.2, _, _, rfl, ?_⟩)))
    have c1 : (((b1 : Int) + (cm : Int)).toNat) = b1 + cm := by (clear n0 y0 y1 hg h'1675 hr1 h'1676 hr2 lx1 ly l1 l2 o1 o2 w4 hW hi h'1696 hpl hpk hlf hw0 hw1 e0 hib cyb hcy dcm en hDt lx hi1 hi2 h'1732 e1 f1 h'1733 e2 f2 k1 k2 hcm cmb w3; omega)
    have c2 : (((b2 : Int) + (cy : Int)).toNat) = b2 + cy := by (clear n0 y0 y1 hg h'1675 hr1 h'1676 hr2 lx1 ly l1 l2 o1 w3 w4 hW hi h'1696 hpl hpk hlf hw0 hw1 e0 hib cmb hcm dcm en hDt lx hi1 hi2 h'1732 e1 f1 h'1733 e2 f2 k1 k2 c1 hcy cyb o2; omega)
    rw [c1, List.getElem?_eq_getElem hi1] at f1
    rw [c2, List.getElem?_eq_getElem hi2] at f2
    have epr : lcms [t1.1, t2.1] = prd ws us (((b1 + cm) * us.length + (b2 + cy) : Nat) : Int) := by
      rw [prd_name hi1 hi2, Option.some.inj f1, Option.some.inj f2]
    rw [epr]
    rw [hW]
    refine ⟨_, _, _, _, _, ps ++ [.inn _], rfl, g3, hD3, hps3, by simp [hpl], fun p hp => ?_, fun c p e => ?_, fun e => absurd e (Nat.succ_ne_zero _), fun _ => ?_⟩
    · rcases List.mem_append.mp hp with z | z
      · exact hpk p z
      · rw [List.mem_singleton.mp z]
        exact ⟨rfl, rfl⟩
    · by_cases hc : c < ps.length
      · rw [List.getElem?_append_left hc] at e
        exact hlf c p e
      · have lj := (List.getElem?_eq_some_iff.mp e).1
        rw [List.length_append, List.length_singleton] at lj
        have ec : c = ps.length := by (clear n0 y0 y1 hg h'1675 hr1 h'1676 hr2 lx1 ly l1 l2 o1 o2 w3 w4 hW hi h'1696 hpl hpk hlf hw0 hw1 e0 hib cyb hcy cmb hcm dcm en hDt h'1732 e1 f1 h'1733 e2 f2 k1 k2 c1 c2 epr e lx; omega)
        rw [List.getElem?_append_right (by (clear n0 y0 y1 hg h'1675 hr1 h'1676 hr2 lx1 ly l1 l2 o1 o2 w3 w4 hW hi h'1696 hpl hpk hlf hw0 hw1 e0 hib cyb hcy cmb hcm dcm en hDt h'1732 e1 f1 h'1733 e2 f2 k1 k2 c1 c2 epr e ec lj lx; omega)), ec, Nat.sub_self] at e
        cases e
        rw [ec, hpl]
        refine leaf_row y0 W1 W2 hg cmb.2 cyb.2 ?_
        obtain ⟨x, hx⟩ := dcm
        exact ⟨-x, by rw [Int.mul_neg]; (clear n0 y0 y1 hg h'1675 hr1 h'1676 hr2 lx1 ly l1 l2 o1 o2 w3 w4 hW hi h'1696 hpk hlf hw0 hw1 e0 hib cyb cmb en hDt h'1732 e1 f1 h'1733 e2 f2 k1 k2 c1 c2 epr ec lj hc lx hcm hcy hpl; omega)⟩
    · rw [nms_append]
      simp only [Pap.nms, Pap.nm, List.append_nil]
      by_cases c0 : i = 0
      · subst c0
        have ep : ps = [] := List.eq_nil_of_length_eq_zero hpl
        subst ep
        rw [hw0 rfl, if_pos ?_]
        · exact isMx_one
        · rw [← epr]
          have := (prd_dvd63 k1.1.1 k2.1.1)
          (clear n0 y0 y1 hg h'1675 hr1 h'1676 hr2 lx1 ly l1 l2 o1 o2 w3 w4 hW cyb cmb en hDt e1 f1 e2 f2 k1 k2 c1 c2 epr hi h'1696 hw0 e0 hib hcy hcm dcm h'1732 h'1733 hpk hlf lx hpl hw1; omega)
      · exact isMx_snoc (hw1 (Nat.pos_of_ne_zero c0))
  · rw [hW] at z
    refine L2.put_away fun G'1776 h'1776 => ?_
    obtain ⟨p1, p2, p3, wt, xs, ps, rfl, g, hD2, hps, hpl, hpk, hlf, hw0, hw1⟩ := z
    refine h'1776 ?_
    have lx := hps.len
    walk_at "wp"
    intro t nt
    have gt := same_new nt (.tup [V.str "parted", .int by_, .ref D])
    have ht := upd_same (H := H2) (a := t) (o := .tup [V.str "parted", .int by_, .ref D])
    generalize upd H2 t (.tup [V.str "parted", .int by_, .ref D]) = H3 at gt ht ⊢
    refine ⟨D, _, rfl, SqL.of (gt _ _ hD2), fun s1 ns1 => ?_⟩
    have ec : cutV xs (some 1) none = xs.drop 1 := by
      rw [show (some (1 : Int)) = some ((1 : Nat) : Int) from rfl, cutV_drop]
    have ec2 : cutV xs none (some 1) = xs.take 1 := by
      rw [show (some (1 : Int)) = some ((1 : Nat) : Int) from rfl]
      exact cutV_take63 xs 1
    rw [ec]
    have g4 := same_new ns1 (.lst (xs.drop 1))
    refine ⟨D, _, rfl, SqL.of (g4 _ _ (gt _ _ hD2)), fun s2 ns2 => ?_⟩
    rw [ec2]
    have g5 := same_new ns2 (.lst (xs.take 1))
    refine ⟨s1, s2, xs.drop 1, xs.take 1, rfl, rfl, g5 _ _ upd_same, upd_same, by rw [sizeLine_eq, List.length_drop, List.length_take]; (clear n0 hg h'1675 hr1 h'1676 hr2 lx1 ly o1 o2 w3 w4 hW h'1776 hpk hlf ec ec2 ns2 hw1 hw0 l2 l1 y0; omega), fun s3 ns3 => ?_⟩
    have g6 := g4.trans (g5.trans (same_new ns3 (.lst (xs.drop 1 ++ xs.take 1))))
    have n3 : H3 s3 = none := (g4.trans g5).free ns3
    have h6 := upd_same (H := upd (upd H3 s1 (.lst (xs.drop 1))) s2 (.lst (xs.take 1))) (a := s3) (o := .lst (xs.drop 1 ++ xs.take 1))
    generalize upd (upd (upd H3 s1 (.lst (xs.drop 1))) s2 (.lst (xs.take 1))) s3 (.lst (xs.drop 1 ++ xs.take 1)) = H6 at g6 h6 ⊢
    intro t2 nt2
    have g7 := same_new nt2 (.tup [V.str "parted", .int by_, .ref s3])
    have h7 := upd_same (H := H6) (a := t2) (o := .tup [V.str "parted", .int by_, .ref s3])
    generalize upd H6 t2 (.tup [V.str "parted", .int by_, .ref s3]) = H7 at g7 h7 ⊢
    intro r nr
    have g8 := same_new nr (.lst [.ref t, .int wt, .ref t2])
    have G3 := g6.trans (g7.trans g8)
    have G2 := gt.trans G3
    have hpsn := (hps.imp (N' := fun l => H l = none) fun l hl => hl.1).mono G2
    have kd : ∀ {qs : List Pap}, qs.length = ps.length → (∀ p ∈ qs, p ∈ ps) → (Pap.par by_ qs).dep ≤ 1 ∧ (Pap.par by_ qs).kn ≤ 5 := fun {qs} lq mq => by
      have d := Pap.deps_le (n := 0) (ps := qs) fun p hp => Nat.le_of_eq (hpk p (mq p hp)).1
      have k := kns_le (n := 1) (ps := qs) fun p hp => Nat.le_of_eq (hpk p (mq p hp)).2
      exact ⟨by show Pap.deps qs + 1 ≤ 1; (clear n0 y0 y1 hg h'1675 hr1 h'1676 hr2 lx1 ly l1 l2 o1 o2 w3 w4 hW h'1776 hpl hpk hlf hw0 hw1 lx ec ec2 ns2 ns3 h6 lq k; omega), by show Pap.kns qs + 1 ≤ 5; (clear n0 hg h'1675 hr1 h'1676 hr2 lx1 ly o1 o2 w3 w4 hW h'1776 hpk hlf ec ec2 ns2 ns3 h6 d lx hw1 hw0 l2 l1 y0; omega)⟩
    have lq : (ps.drop 1 ++ ps.take 1).length = ps.length := by rw [List.length_append, List.length_drop, List.length_take]; (clear n0 y0 y1 hg h'1675 hr1 h'1676 hr2 lx1 ly l1 l2 o1 o2 w3 w4 hW h'1776 hpk hlf hw0 hw1 ec ec2 ns2 ns3 h6 kd lx hpl; omega)
    have mq : ∀ p ∈ ps.drop 1 ++ ps.take 1, p ∈ ps := fun p hp => by
      rcases List.mem_append.mp hp with z | z
      · exact List.mem_of_mem_drop z
      · exact List.mem_of_mem_take z
    have k1 := kd rfl fun p hp => hp
    have k2 := kd lq mq
    have G := g.trans G2
    refine q r _ G (g.free (gt.free (g6.free (g7.free nr)))) ⟨.ref t, .ref t2, .par by_ ps, .par by_ (ps.drop 1 ++ ps.take 1), wt, upd_same, .par (G3 _ _ ht) (G2 _ _ hD2) nD (by rw [lx, hpl]; (clear n0 hg h'1675 hr1 h'1676 hr2 lx1 ly o1 o2 w3 w4 hW h'1776 hpk hlf ec ec2 ns2 ns3 h6 kd mq k1 k2 lq lx hw1 hw0 hpl l2 l1 y0; omega)) hpsn, .par (g8 _ _ h7) ((g7.trans g8) _ _ h6) (g.free (gt.free n3)) (by rw [List.length_append, List.length_drop, List.length_take]; (clear n0 hg h'1675 hr1 h'1676 hr2 lx1 ly o1 o2 w3 w4 hW h'1776 hpk hlf ec ec2 ns2 ns3 h6 kd mq k1 k2 lq hw1 hw0 l2 l1 y0; omega)) ((PapsIn.dropP 1 hpsn).append (PapsIn.takeP 1 hpsn)), k1.1, k1.2, k2.1, k2.2, ?_, hw1 (by (clear n0 hg h'1675 hr1 h'1676 hr2 lx1 ly o1 o2 w3 w4 hW h'1776 hpk hlf ec ec2 ns2 ns3 h6 kd mq k1 k2 lq lx hw1 hw0 hpl l2 l1 y1; omega)), leaves_wrong y0 (by (clear n0 hg h'1675 hr1 h'1676 hr2 lx1 ly o1 o2 w3 w4 hW h'1776 hpk hlf ec ec2 ns2 ns3 h6 kd mq k1 k2 lq lx hw1 hw0 l2 l1 y1; omega)) hlf⟩
    unfold rightB
    rw [decide_eq_true y0, decide_eq_true (show (ps.length : Int) = by_ by (clear n0 hg h'1675 hr1 h'1676 hr2 lx1 ly o1 o2 w3 w4 hW h'1776 hpk hlf ec ec2 ns2 ns3 h6 kd mq k1 k2 lq lx hw1 hw0 l2 l1 y1; omega)), leaves_right y0 (s := 1) (by decide) hlf]
    rfl
noncomputable def sp_meet63 : Sp := fun vs H Q _ => ∃ (p1 p2 : Addr) (u v : T3), vs = [.ref p1, .ref p2] ∧ H p1 = some (tupW u) ∧ H p2 = some (tupW v) ∧ 1 ≤ u.1 ∧ 1 ≤ v.1 ∧ Q (.bl (decide (gcdI u.1 v.1 ≤ u.2.2 + v.2.2 - 1))) H
theorem h_law_meet (T : TF K mg "_law_meet" s_law_meet) (G_law_divisor : Has P w K mg base 1 "_law_divisor" ["one", "other"] sp_law_divisor) : Has P w K mg base 2 "_law_meet" ["one", "other"] sp_meet63 := by
  refine T.has sc_law_meet (fun _ _ _ _ _ _ => L2.bnd2 fun _ _ => rfl) (fun vs H Q E h => ?_) (fun f cdv A outer s H vs Q E hr h => ?_)
  · refine L2.put_away fun G'1827 h'1827 => ?_
    obtain ⟨p1, p2, u, v, rfl, _⟩ := h
    refine h'1827 ?_
    rfl
  refine L2.put_away fun G'1829 h'1829 => ?_
  obtain ⟨p1, p2, u, v, rfl, h1, h2, u1, v1, q⟩ := h
  refine h'1829 ?_
  refine ⟨_, (pss_one (ps_ret (pe_cmpR op_ge (pe_op op_sub (pe_op op_add (pe_ix ix_tup (pv 0) pe_int (fun _ _ => rfl)) (pe_ix ix_tup (pv 1) pe_int (fun _ _ => rfl))) pe_int) (pe_def (G_law_divisor.mono (by first | decide | omega)) hr (pa_cons (pe_ix ix_tup (pv 0) pe_int (fun _ _ => rfl)) (pa_cons (pe_ix ix_tup (pv 1) pe_int (fun _ _ => rfl)) pa_nil))) (nomark _)))), ?_⟩
  have T1 : SqT K H p1 [.int u.1, .int u.2.1, .int u.2.2] := SqT.of h1
  have T2 : SqT K H p2 [.int v.1, .int v.2.1, .int v.2.2] := SqT.of h2
  walk_at "wp"
  refine ⟨_, _, _, .int u.2.2, rfl, rfl, T1, rfl, _, _, _, .int v.2.2, rfl, rfl, T2, rfl, ?_⟩
  walk_at "wp"
  refine ⟨_, _, _, .int u.1, rfl, rfl, T1, rfl, _, _, _, .int v.1, rfl, rfl, T2, rfl, _, _, rfl, by (clear v1; omega), by (clear u1; omega), ?_⟩
  walk_at "wp"
  exact q
theorem full_at {ws us : List T3} {k : Int} {t3 t4 : T3} (k0 : 0 ≤ k) (k1 : k < ((ws.length * us.length : Nat) : Int)) (f3 : ws[(k / (us.length : Int)).toNat]? = some t3) (f4 : us[(k % (us.length : Int)).toNat]? = some t4) (w3 : 1 ≤ t3.1) (hm : gcdI t3.1 t4.1 ≤ t3.2.2 + t4.2.2 - 1) : Full (shs ws us) k := by
  obtain ⟨i, rfl⟩ : ∃ i : Nat, k = (i : Int) := ⟨k.toNat, by (clear k1 f3 f4 w3 hm; omega)⟩
  have hi : i < ws.length * us.length := by (clear w3 hm k0 f3 f4; omega)
  rw [← Int.natCast_ediv, Int.toNat_natCast] at f3
  rw [← Int.natCast_emod, Int.toNat_natCast] at f4
  unfold Full
  rw [Int.toNat_natCast, shs_at hi, shs_len, List.getD_eq_getElem?_getD, f3, List.getD_eq_getElem?_getD, f4]
  have gp := gcdI_pos (a := t3.1) (b := t4.1) (by (clear hm k0 k1 f3 f4 hi; omega))
  refine ⟨by (clear w3 hm k1 f3 f4 hi gp k0; omega), by (clear w3 hm k0 f3 f4 hi gp; omega), ?_, ?_⟩
  · show 1 ≤ gcdI t3.1 t4.1
    (clear w3 hm k0 k1 f3 f4 hi; omega)
  · show (if t3.2.2 + t4.2.2 - 1 < gcdI t3.1 t4.1 then t3.2.2 + t4.2.2 - 1 else gcdI t3.1 t4.1) = gcdI t3.1 t4.1
    rw [if_neg (by (clear w3 k0 k1 f3 f4 hi gp; omega))]
theorem nms_inn : ∀ ks : List Int, Pap.nms (ks.map Pap.inn) = ks
  | [] => rfl
  | k :: ks => by simp only [List.map_cons, Pap.nms, Pap.nm, nms_inn ks, List.cons_append, List.nil_append]
theorem inn_dk : ∀ ks : List Int, Pap.deps (ks.map Pap.inn) = 0 ∧ Pap.kns (ks.map Pap.inn) = ks.length
  | [] => ⟨rfl, rfl⟩
  | k :: ks => by
    obtain ⟨h1, h2⟩ := inn_dk ks
    simp only [List.map_cons, Pap.deps, Pap.kns, Pap.dep, Pap.kn, h1, h2, List.length_cons]
    (clear h1 h2; omega)
theorem mx_set {f : Int → Int} {m i : Nat} {a b : Int} (hi : i < m) (h2 : 2 ≤ m) : IsMx f ((List.replicate m a).set i b) (if f b > f a then f b else f a) := by
  have ma : a ∈ (List.replicate m a).set i b := by
    obtain ⟨j, hj, hji⟩ : ∃ j, j < m ∧ j ≠ i := by
      by_cases c : i = 0
      · exact ⟨1, by (clear hi c; omega), by (clear hi h2; omega)⟩
      · exact ⟨0, by (clear hi c; omega), by (clear hi h2; omega)⟩
    refine List.mem_of_getElem? (i := j) ?_
    rw [List.getElem?_set_ne (Ne.symm hji), List.getElem?_replicate, if_pos hj]
  have mb : b ∈ (List.replicate m a).set i b := List.mem_set (by simpa using hi) b
  have all : ∀ k ∈ (List.replicate m a).set i b, k = a ∨ k = b := fun k hk => by
    rcases List.mem_or_eq_of_mem_set hk with z | z
    · exact .inl (List.eq_of_mem_replicate z)
    · exact .inr z
  by_cases c : f b > f a
  · rw [if_pos c]
    refine ⟨⟨b, mb, rfl⟩, fun k hk => ?_⟩
    rcases all k hk with rfl | rfl <;> (clear hi h2 all; omega)
  · rw [if_neg c]
    refine ⟨⟨a, ma, rfl⟩, fun k hk => ?_⟩
    rcases all k hk with rfl | rfl <;> (clear hi h2 all; omega)
theorem PapsIn.setP {K : PySem.W.Frag} {N : Addr → Prop} {H : Hp} {x : V} {p : Pap} (hx : PapIn K N H x p) : ∀ {xs : List V} {ps : List Pap} (i : Nat), PapsIn K N H xs ps → PapsIn K N H (xs.set i x) (ps.set i p)
  | _, _, _, .nil => .nil
  | _, _, 0, .cons _ hs => .cons hx hs
  | _, _, i + 1, .cons h hs => .cons h (PapsIn.setP hx i hs)
theorem h_law_paper (T : TF K mg "_law_paper" s_law_paper) (m_len : mg "len" = none) (m_range : mg "range" = none) (m_max : mg "max" = none) (G_law_big : Has P w K mg base 1 "_law_big" ["cell"] sp_big) (G_law_round : Has P w K mg base 2 "_law_round" ["one", "other"] sp_round) (G_law_meet : Has P w K mg base 2 "_law_meet" ["one", "other"] sp_meet63) (G_law_by_parts : Has P w K mg base 3 "_law_by_parts" ["number", "one", "other", "by"] (sp_trio K)) : Has P w K mg base 4 "_law_paper" ["cell", "one", "other", "by"] (sp_trioC K) := by
  refine T.has sc_law_paper (fun _ _ _ _ _ _ => L2.bnd4 fun _ _ _ _ => rfl) (fun vs H Q E h => ?_) (fun f cdv A outer s H vs Q E hr h => ?_)
  · refine L2.put_away fun G'1887 h'1887 => ?_
    obtain ⟨n, by_, g1, g2, r1, r2, ws, us, a1, b1, a2, b2, rfl, _⟩ := h
    refine h'1887 ?_
    rfl
  refine L2.put_away fun G'1889 h'1889 => ?_
  obtain ⟨n, by_, g1, g2, r1, r2, ws, us, a1, b1, a2, b2, rfl, nb, y0, y1, hg, R1, R2, q⟩ := h
  refine h'1889 ?_
  refine ⟨_, (pss_cons (ps_set (i := 4) sc_law_paper.nd rfl (Or.inr rfl) (pe_op op_add (pe_op op_mulA (pe_ix ix_list (pv 1) pe_int (fun _ _ => rfl)) (pe_callB call_len_seq rfl m_len PySem.boot_len (pa_cons (pe_ix ix_list (pv 2) pe_int (fun _ _ => rfl)) pa_nil))) (pe_ix ix_list (pv 2) pe_int (fun _ _ => rfl)))) (pss_cons (ps_cut (ps_set (i := 5) sc_law_paper.nd rfl (Or.inl rfl) (pe_def (G_law_round.mono (by first | decide | omega)) hr (pa_cons (pe_ix ix_list (pe_ix ix_list (pv 1) pe_int (fun _ _ => rfl)) (pe_ix ix_list (pv 1) pe_int (fun _ _ => rfl)) (fun _ _ => rfl)) (pa_cons (pe_ix ix_list (pe_ix ix_list (pv 2) pe_int (fun _ _ => rfl)) (pe_ix ix_list (pv 2) pe_int (fun _ _ => rfl)) (fun _ _ => rfl)) pa_nil))))) (pss_cons (ps_set (i := 6) sc_law_paper.nd rfl (Or.inl rfl) (pe_def (G_law_big.mono (by first | decide | omega)) hr (pa_cons (pv 0) pa_nil))) (pss_cons (ps_cut (ps_set (i := 7) sc_law_paper.nd rfl (Or.inl rfl) (pe_def (G_law_by_parts.mono (by first | decide | omega)) hr (pa_cons (pe_op op_fdivA (pv 6) pe_int) (pa_cons (pv 1) (pa_cons (pv 2) (pa_cons (pv 3) pa_nil))))))) (pss_cons (ps_if (pt_cmpR op_gt (pe_op op_mod (pv 6) pe_int) pe_int (nomark _)) (pss_one (ps_ret (pv 7))) pss_nil) (pss_cons (ps_cut (ps_if (pt_cmpR op_eq (pe_op op_mod (pv 6) pe_int) pe_int (nomark _)) (pss_one (ps_ret (pe_lst (pa_cons (pe_tup (pa_cons pe_str (pa_cons (pv 4) pa_nil))) (pa_cons (pv 5) (pa_cons (pe_ix ix_list (pv 7) pe_int (fun _ _ => rfl)) pa_nil)))))) pss_nil)) (pss_cons (ps_cut (ps_setComp (i := 9) sc_law_paper.nd rfl (Or.inl rfl) (CompSc.capt (own := ["k"]) (capt := ["name"]) (fr := [4]) rfl ⟨rfl, rfl, rfl, rfl, rfl, trivial⟩ (by decide +kernel) (by decide +kernel) rfl (by decide +kernel)) rfl (pi_range1 rfl m_range (pa_cons (pe_op op_add pe_int (pe_op op_mod (pe_op op_fdivA (pv 6) pe_int) pe_int)) pa_nil)) (fun _ _ _ => (pg_name (i := 0) (show (["k", "name"] : List Str).Nodup from by decide +kernel) rfl (Or.inl rfl) (Or.inr rfl))) (fun _ _ _ => pts_nil) (fun _ _ _ => (pe_tup (pa_cons pe_str (pa_cons (pv 1) pa_nil)))))) (pss_cons (ps_set (i := 8) sc_law_paper.nd rfl (Or.inl rfl) (pe_op op_mod (pe_op op_fdivA (pv 6) pe_int) (pe_op op_mulA (pe_callB call_len_seq rfl m_len PySem.boot_len (pa_cons (pe_ix ix_list (pv 1) pe_int (fun _ _ => rfl)) pa_nil)) (pe_callB call_len_seq rfl m_len PySem.boot_len (pa_cons (pe_ix ix_list (pv 2) pe_int (fun _ _ => rfl)) pa_nil))))) (pss_cons (ps_set (i := 10) sc_law_paper.nd rfl (Or.inl rfl) (pe_ix ix_list (pe_ix ix_list (pv 1) pe_int (fun _ _ => rfl)) (pe_op op_fdivA (pv 8) (pe_callB call_len_seq rfl m_len PySem.boot_len (pa_cons (pe_ix ix_list (pv 2) pe_int (fun _ _ => rfl)) pa_nil))) (fun _ _ => rfl))) (pss_cons (ps_cut (ps_set (i := 11) sc_law_paper.nd rfl (Or.inl rfl) (pe_ix ix_list (pe_ix ix_list (pv 2) pe_int (fun _ _ => rfl)) (pe_op op_mod (pv 8) (pe_callB call_len_seq rfl m_len PySem.boot_len (pa_cons (pe_ix ix_list (pv 2) pe_int (fun _ _ => rfl)) pa_nil))) (fun _ _ => rfl)))) (pss_cons (ps_cut (ps_if (PW.pt (pw_and (pt_cmpR op_eq (pe_op op_mod (pv 6) pe_int) pe_int (nomark _)) (pw_and1 (pt_val (pe_def (G_law_meet.mono (by first | decide | omega)) hr (pa_cons (pv 10) (pa_cons (pv 11) pa_nil))) (fun _ => rfl))))) (pss_cons (ps_asg (pe_tup (pa_cons pe_str (pa_cons (pv 8) pa_nil))) (pg_sub (pv 9) (pe_op op_mod (pe_op op_fdivA (pv 6) pe_int) (pe_callB call_len_seq rfl m_len PySem.boot_len (pa_cons (pv 9) pa_nil))) set_list)) (pss_one (ps_set (i := 5) sc_law_paper.nd rfl (Or.inl rfl) (pe_callB (call_max2 rfl) rfl m_max (by decide +kernel) (pa_cons (pv 5) (pa_cons (pe_def (G_law_round.mono (by first | decide | omega)) hr (pa_cons (pv 10) (pa_cons (pv 11) pa_nil))) pa_nil)))))) pss_nil)) (pss_one (ps_ret (pe_lst (pa_cons (pe_tup (pa_cons pe_str (pa_cons (pe_callB call_len_seq rfl m_len PySem.boot_len (pa_cons (pv 9) pa_nil)) (pa_cons (pv 9) pa_nil)))) (pa_cons (pv 5) (pa_cons (pe_ix ix_list (pv 7) pe_int (fun _ _ => rfl)) pa_nil))))))))))))))))), ?_⟩
  have R1' := R1
  have R2' := R2
  refine L2.put_away fun G'1893 h'1893 => ?_
  obtain ⟨L1, xs1, hr1, hL1, hP1, W1⟩ := R1
  refine h'1893 ?_
  refine L2.put_away fun G'1894 h'1894 => ?_
  obtain ⟨LB, xs2, hr2, hL2, hP2, W2⟩ := R2
  refine h'1894 ?_
  have lx1 := hP1.1
  have ly := hP2.1
  have l1 := W1.len
  have l2 := W2.len
  have o1 := W1.low
  have o2 := W2.low
  have w3 := W1.few
  have w4 := W2.few
  have hi1 : a1 < ws.length := by (clear nb hg h'1893 hr1 h'1894 hr2 lx1 ly o2 w3 w4 l2 y1; omega)
  have hi2 : a2 < us.length := by (clear nb hg h'1893 hr1 h'1894 hr2 lx1 ly o1 w3 w4 hi1 l1 y1; omega)
  refine L2.put_away fun G'1905 h'1905 => ?_
  obtain ⟨s1, t1, e1, f1, m1, z1⟩ := hP1.ix (i := (a1 : Int)) (by (clear nb y0 y1 hg h'1893 hr1 h'1894 hr2 lx1 ly l1 l2 o1 o2 w3 w4 hi1 hi2 h'1905; omega)) (by (clear nb y0 y1 hg h'1893 hr1 h'1894 hr2 lx1 ly o1 o2 w3 w4 hi2 h'1905 l2 l1; omega))
  refine h'1905 ?_
  refine L2.put_away fun G'1906 h'1906 => ?_
  obtain ⟨s2, t2, e2, f2, m2, z2⟩ := hP2.ix (i := (a2 : Int)) (by (clear nb y0 y1 hg h'1893 hr1 h'1894 hr2 lx1 ly l1 l2 o1 o2 w3 w4 hi1 hi2 h'1905 e1 f1 h'1906; omega)) (by (clear nb y0 y1 hg h'1893 hr1 h'1894 hr2 lx1 ly l1 l2 o1 o2 w3 w4 hi1 h'1905 e1 f1 h'1906; omega))
  refine h'1906 ?_
  have k1 := W1.wk t1 m1
  have k2 := W2.wk t2 m2
  rw [Int.toNat_natCast, List.getElem?_eq_getElem hi1] at f1
  rw [Int.toNat_natCast, List.getElem?_eq_getElem hi2] at f2
  have epr : lcms [t1.1, t2.1] = prd ws us ((a1 * us.length + a2 : Nat) : Int) := by
    rw [prd_name hi1 hi2, Option.some.inj f1, Option.some.inj f2]
  have hfull := pair_full y0 W1 W2
  have en : (a1 : Int) * (us.length : Int) + (a2 : Int) = ((a1 * us.length + a2 : Nat) : Int) := by simp
  obtain ⟨nm, hnm⟩ : ∃ nm : Int, ((a1 * us.length + a2 : Nat) : Int) = nm := ⟨_, rfl⟩
  rw [hnm] at hfull epr en
  walk_at "wp"
  refine rIxL_mk (SqL.of hr1) (v := .int (a1 : Int)) rfl (rIxL_mk (SqL.of hr2) (v := .ref LB) rfl ⟨_, _, rfl, .inl (SqL.of hL2), ?_⟩)
  rw [ly]
  walk_at "wp"
  refine ⟨mokS (by (clear nb y0 y1 hg h'1893 hr1 h'1894 hr2 lx1 l1 l2 o1 o2 w3 w4 h'1905 e1 f1 h'1906 e2 f2 k1 k2 en epr hnm ly; omega)) (by (clear nb hg h'1893 hr1 h'1894 hr2 lx1 ly o1 o2 w3 h'1905 e1 f1 h'1906 e2 f2 k1 k2 en epr hnm l1 y0; omega)), rIxL_mk (SqL.of hr2) (v := .int (a2 : Int)) rfl ?_⟩
  walk_at "wp"
  rw [en]
  refine ⟨fun σ H' => σ = [some (.int n), some (.ref r1), some (.ref r2), some (.int by_), some (.int nm), some (.int (prd ws us nm)), none, none, none, none, none, none] ∧ H' = H, ?_, ?_⟩
  · walk_at "wp"
    refine rIxL_mk (SqL.of hr1) (v := .ref L1) rfl (rIxL_mk (SqL.of hr1) (v := .int (a1 : Int)) rfl (rIxL_mk (SqL.of hL1) e1 (rIxL_mk (SqL.of hr2) (v := .ref LB) rfl (rIxL_mk (SqL.of hr2) (v := .int (a2 : Int)) rfl (rIxL_mk (SqL.of hL2) e2 ⟨s1, s2, t1, t2, rfl, z1, z2, k1.1.1, k2.1.1, k1.2, k2.2, ?_⟩)))))
    rw [epr]
    exact ⟨rfl, rfl⟩
  rintro σ H' ⟨rfl, rfl⟩
  walk_at "wp"
  refine ⟨n, rfl, nb, fun num n0 n1 => ?_⟩
  refine ⟨fun σ H1 => ∃ r, σ = [some (.int n), some (.ref r1), some (.ref r2), some (.int by_), some (.int nm), some (.int (prd ws us nm)), some (.int num), some (.ref r), none, none, none, none] ∧ Same H' H1 ∧ H' r = none ∧ Trio K (fun l => H' l = none) H1 r ws us, ?_, ?_⟩
  · walk_at "wp"
    exact ⟨divA 10 (by decide) (by decide) (by decide), _, by_, g1, g2, r1, r2, ws, us, a1, b1, a2, b2, rfl, Int.ediv_nonneg n0 (by decide), y0, y1, hg, R1', R2', fun r H1 gr nr TR => ⟨r, rfl, gr, nr, TR⟩⟩
  rintro σ H1 ⟨r, rfl, gr, nr, TR⟩
  have TR' := TR
  refine L2.put_away fun G'1937 h'1937 => ?_
  obtain ⟨v1, v2, pp, pq, wt, hr, hv1, hv2, d1, d2, d3, d4, d5, d6, d7⟩ := TR
  refine h'1937 ?_
  walk_at "wp"
  refine ⟨by decide, fun _ => q r H1 gr nr TR', fun _ => ?_⟩
  refine ⟨fun σ H2 => σ = [some (.int n), some (.ref r1), some (.ref r2), some (.int by_), some (.int nm), some (.int (prd ws us nm)), some (.int num), some (.ref r), none, none, none, none] ∧ H2 = H1, ?_, ?_⟩
  · walk_at "wp"
    refine ⟨by decide, fun _ => ?_⟩
    intro t nt
    have gt := same_new nt (.tup [V.str "in", .int nm])
    refine rIxL_mk (SqL.of (gt _ _ hr)) (v := v2) rfl fun s ns => ?_
    have gs := same_new ns (.lst [.ref t, .int (prd ws us nm), v2])
    exact q s _ (gr.trans (gt.trans gs)) (gr.free (gt.free ns)) ⟨.ref t, v2, .inn nm, pq, _, upd_same, .inn (gs _ _ upd_same), hv2.mono (gt.trans gs), by simp [Pap.dep], by simp [Pap.kn], d3, d4, good_inn nm _ _ _ (by decide) (fun k hk => by rw [show k = nm from List.mem_singleton.mp hk]; exact hfull), isMx_one, d7⟩
  rintro σ H2 ⟨rfl, rfl⟩
  walk_at "wp"
  have b2' := modB (num / 5) (show (0 : Int) < 2 by decide)
  obtain ⟨m, hm⟩ : ∃ m : Nat, (2 + num / 5 % 2).toNat = m := ⟨_, rfl⟩
  have m23 : 2 ≤ m ∧ m ≤ 3 := by (clear nb y0 y1 hg lx1 ly l1 l2 o1 o2 w3 w4 e1 f1 e2 f2 k1 k2 en epr hnm h'1893 hr1 h'1894 hr2 h'1905 h'1906 n0 n1 d1 d2 d3 d4 d5 h'1937 b2'; omega)
  refine ⟨fun σ H3 => ∃ (D : Addr) (ys : List V), σ = [some (.int n), some (.ref r1), some (.ref r2), some (.int by_), some (.int nm), some (.int (prd ws us nm)), some (.int num), some (.ref r), none, some (.ref D), none, none] ∧ H2 D = none ∧ Same H2 H3 ∧ H3 D = some (.lst ys) ∧ PapsIn K (fun l => H' l = none ∧ l ≠ D) H3 ys ((List.replicate m nm).map Pap.inn), ?_, ?_⟩
  · walk_at "wp"
    refine ⟨divA 10 (by decide) (by decide) (by decide), by decide, _, rfl, by (clear nb y0 y1 hg lx1 ly l1 l2 o1 o2 w3 w4 e1 f1 e2 f2 k1 k2 en epr hnm h'1893 hr1 h'1894 hr2 h'1905 h'1906 n0 n1 d1 d2 d3 d4 d5 h'1937 hm m23 b2'; omega), by (clear nb y0 y1 hg lx1 ly l1 l2 o1 o2 w3 w4 e1 f1 e2 f2 k1 k2 en epr hnm h'1893 hr1 h'1894 hr2 h'1905 h'1906 n0 n1 d1 d2 d3 d4 d5 h'1937 hm m23 b2'; omega), ?_⟩
    rw [hm]
    obtain ⟨Sv, hSv⟩ : ∃ Sv : St → Prop, Sv = fun σ => ∃ o, σ = [o, some (.int nm)] := ⟨_, rfl⟩
    obtain ⟨Pv, hPv⟩ : ∃ Pv : Addr → Nat → List V → Hp → Prop, Pv = fun D i ys H3 => H2 D = none ∧ Same H2 H3 ∧ PapsIn K (fun l => H' l = none ∧ l ≠ D) H3 ys ((List.replicate i nm).map Pap.inn) := ⟨_, rfl⟩
    refine compW_range Sv Pv (by rw [hSv]; exact ⟨none, rfl⟩) (fun D hD => ?_) (fun D i ys σ H3 hi hs hD hy h => ?_) (fun D ys H3 hD h => ?_)
    · rw [hPv]
      exact ⟨hD, same_new hD _, .nil⟩
    · rw [hSv] at hs
      rw [hPv] at h
      obtain ⟨o, rfl⟩ := hs
      refine L2.put_away fun G'1965 h'1965 => ?_
      obtain ⟨nD, g, hps⟩ := h
      refine h'1965 ?_
      walk_at "wp"
      intro t nt
      have gt := same_new nt (.tup [V.str "in", .int nm])
      have hDt := gt _ _ hD
      refine CompP.mk hDt hy (by rw [sizeLine_eq]; (clear nb y0 y1 hg lx1 ly l1 l2 o1 o2 w3 w4 e1 f1 e2 f2 k1 k2 en epr hnm h'1893 hr1 h'1894 hr2 h'1905 h'1906 n0 n1 d1 d2 d3 d4 d5 h'1937 b2' hm hPv hy h'1965; omega)) (by rw [hSv]; exact ⟨_, rfl⟩) (by
        rw [hPv]
        refine ⟨nD, (g.trans gt).write nD _, ?_⟩
        rw [List.replicate_succ', List.map_append]
        exact ((hps.mono gt).snoc (.inn upd_same)).write hDt fun l hl => hl.2)
    rw [hPv] at h
    refine L2.put_away fun G'1976 h'1976 => ?_
    obtain ⟨nD, g3, hps⟩ := h
    refine h'1976 ?_
    exact ⟨D, ys, rfl, nD, g3, hD, hps⟩
  rintro σ H3 ⟨D, ys, rfl, nD, g3, hD, hps⟩
  walk_at "wp"
  have G3 := gr.trans g3
  have lys := hps.len
  rw [List.length_map, List.length_replicate] at lys
  have lw7 : ws.length ≤ 7 := by (clear nb hg lx1 ly o1 o2 w4 e1 f1 e2 f2 k1 k2 en epr hnm h'1893 hr1 h'1894 hr2 h'1905 h'1906 n0 n1 d1 d2 d3 d4 d5 h'1937 b2' hm m23 lys l2 y0; omega)
  have lu7 : us.length ≤ 7 := by (clear nb hg lx1 ly o1 o2 w3 e1 f1 e2 f2 k1 k2 en epr hnm h'1893 hr1 h'1894 hr2 h'1905 h'1906 n0 n1 d1 d2 d3 d4 d5 h'1937 b2' hm m23 lys lw7 l1 y0; omega)
  have lm := Nat.mul_le_mul lw7 lu7
  have lpos : 0 < ws.length * us.length := Nat.mul_pos (by (clear nb y0 y1 hg ly o1 o2 w3 w4 e1 f1 e2 f2 k1 k2 en epr hnm h'1893 hr1 h'1894 hr2 h'1905 h'1906 n0 n1 d1 d2 d3 d4 d5 h'1937 b2' hm m23 lys lu7 lm lw7 l2 l1 lx1; omega)) (by (clear nb hg lx1 o1 o2 w3 e1 f1 e2 f2 k1 k2 en epr hnm h'1893 hr1 h'1894 hr2 h'1905 h'1906 n0 n1 d1 d2 d3 d4 d5 h'1937 b2' hm m23 lys lw7 lm lu7 w4 l2 l1 ly y1 y0; omega))
  refine ⟨divA 10 (by decide) (by decide) (by decide), rIxL_mk (SqL.of (G3 _ _ hr1)) (v := .ref L1) rfl ⟨_, _, rfl, .inl (SqL.of (G3 _ _ hL1)), rIxL_mk (SqL.of (G3 _ _ hr2)) (v := .ref LB) rfl ⟨_, _, rfl, .inl (SqL.of (G3 _ _ hL2)), mokS (by (clear nb y0 y1 hg lx1 l1 l2 o1 o2 w3 w4 e1 f1 e2 f2 k1 k2 en epr hnm h'1893 hr1 h'1894 hr2 h'1905 h'1906 n0 n1 d1 d2 d3 d4 d5 h'1937 b2' hm m23 lys lw7 lm lpos lu7 ly; omega)) (by (clear nb y0 y1 hg lx1 l1 l2 o1 o2 w3 w4 e1 f1 e2 f2 k1 k2 en epr hnm h'1893 hr1 h'1894 hr2 h'1905 h'1906 n0 n1 d1 d2 d3 d4 d5 h'1937 b2' hm m23 lys lw7 lm lpos; omega)), ?_⟩⟩⟩
  rw [lx1, ly, ← Int.natCast_mul]
  have kb := modB (num / 10) (show (0 : Int) < ((ws.length * us.length : Nat) : Int) by (clear nb y0 y1 hg lx1 ly l1 l2 o1 o2 w3 w4 e1 f1 e2 f2 k1 k2 en epr hnm h'1893 hr1 h'1894 hr2 h'1905 h'1906 n0 n1 d1 d2 d3 d4 d5 h'1937 b2' hm m23 lys lw7 lu7 lm; omega))
  generalize num / 10 % ((ws.length * us.length : Nat) : Int) = k at kb ⊢
  refine ⟨by (clear nb y0 y1 hg lx1 ly l1 l2 o1 o2 w3 w4 e1 f1 e2 f2 k1 k2 en epr hnm h'1893 hr1 h'1894 hr2 h'1905 h'1906 n0 n1 d1 d2 d3 d4 d5 h'1937 b2' hm m23 lys lw7 lu7 kb lm; omega), rIxL_mk (SqL.of (G3 _ _ hr1)) (v := .ref L1) rfl (rIxL_mk (SqL.of (G3 _ _ hr2)) (v := .ref LB) rfl ⟨_, _, rfl, .inl (SqL.of (G3 _ _ hL2)), ?_⟩)⟩
  rw [ly]
  have q0 : 0 ≤ k / (us.length : Int) := Int.ediv_nonneg kb.1 (by (clear nb y0 y1 hg lx1 l1 l2 o1 o2 w3 w4 e1 f1 e2 f2 k1 k2 en epr hnm h'1893 hr1 h'1894 hr2 h'1905 h'1906 n0 n1 d1 d2 d3 d4 d5 h'1937 b2' hm m23 lys lw7 lm lpos kb lu7 ly; omega))
  have q1 : k / (us.length : Int) < ws.length := Int.ediv_lt_of_lt_mul (by (clear nb y0 y1 hg lx1 l1 l2 o1 o2 w3 w4 e1 f1 e2 f2 k1 k2 epr hnm h'1893 hr1 h'1894 hr2 h'1905 h'1906 n0 n1 d1 d2 d3 d4 d5 h'1937 b2' hm m23 lys lw7 lm lpos kb q0 lu7 en ly; omega)) (by rw [← Int.natCast_mul]; exact kb.2)
  have rr0 := Int.emod_nonneg k (show (us.length : Int) ≠ 0 by (clear nb y0 y1 hg lx1 ly l1 l2 o1 o2 w3 w4 e1 f1 e2 f2 k1 k2 epr hnm h'1893 hr1 h'1894 hr2 h'1905 h'1906 n0 n1 d1 d2 d3 d4 d5 h'1937 b2' hm m23 lys lw7 lu7 lm lpos kb q0 q1 en; omega))
  have rr1 := Int.emod_lt_of_pos k (show (0 : Int) < us.length by (clear nb y0 y1 hg lx1 l1 l2 o1 o2 w3 w4 e1 f1 e2 f2 k1 k2 epr hnm h'1893 hr1 h'1894 hr2 h'1905 h'1906 n0 n1 d1 d2 d3 d4 d5 h'1937 b2' hm m23 lys lw7 lm lpos kb q0 q1 rr0 lu7 en ly; omega))
  refine L2.put_away fun G'1997 h'1997 => ?_
  obtain ⟨s3, t3, e3, f3, m3, z3⟩ := (hP1.same G3).ix q0 q1
  refine h'1997 ?_
  refine L2.put_away fun G'1998 h'1998 => ?_
  obtain ⟨s4, t4, e4, f4, m4, z4⟩ := (hP2.same G3).ix rr0 rr1
  refine h'1998 ?_
  have k3 := W1.wk t3 m3
  have k4 := W2.wk t4 m4
  refine ⟨divA 10 (by (clear nb y0 y1 hg lx1 l1 l2 o1 o2 w3 w4 e1 f1 e2 f2 k1 k2 epr hnm h'1893 hr1 h'1894 hr2 h'1905 h'1906 n0 n1 d1 d2 d3 d4 d5 h'1937 b2' hm m23 lys lw7 lm lpos kb q0 q1 rr0 rr1 h'1997 e3 f3 h'1998 e4 f4 k3 k4 lu7 en ly; omega)) (by (clear nb y0 y1 hg lx1 l1 l2 o1 o2 w3 w4 e1 f1 e2 f2 k1 k2 en epr hnm h'1893 hr1 h'1894 hr2 h'1905 h'1906 n0 n1 d1 d2 d3 d4 d5 h'1937 b2' hm m23 lys lw7 lm lpos kb q0 q1 rr0 rr1 h'1997 e3 f3 h'1998 e4 f4 k3 k4 ly; omega)) (by decide), rIxL_mk (SqL.of (G3 _ _ hL1)) e3 ?_⟩
  refine ⟨fun σ H4 => σ = [some (.int n), some (.ref r1), some (.ref r2), some (.int by_), some (.int nm), some (.int (prd ws us nm)), some (.int num), some (.ref r), some (.int k), some (.ref D), some (.ref s3), some (.ref s4)] ∧ H4 = H3, ?_, ?_⟩
  · walk_at "wp"
    refine rIxL_mk (SqL.of (G3 _ _ hr2)) (v := .ref LB) rfl (rIxL_mk (SqL.of (G3 _ _ hr2)) (v := .ref LB) rfl ⟨_, _, rfl, .inl (SqL.of (G3 _ _ hL2)), ?_⟩)
    rw [ly]
    exact ⟨by (clear nb y0 y1 hg lx1 l1 l2 o1 o2 w3 w4 e1 f1 e2 f2 k1 k2 epr hnm h'1893 hr1 h'1894 hr2 h'1905 h'1906 n0 n1 d1 d2 d3 d4 d5 h'1937 b2' hm m23 lys lw7 lm lpos kb q0 q1 rr0 rr1 h'1997 e3 f3 h'1998 e4 f4 k3 k4 lu7 en ly; omega), rIxL_mk (SqL.of (G3 _ _ hL2)) e4 ⟨rfl, rfl⟩⟩
  rintro σ H4 ⟨rfl, rfl⟩
  obtain ⟨M, hM⟩ : ∃ M : St → Hp → Prop, M = fun σ H5 => ∃ (wt : Int) (ys : List V) (ks : List Int), σ = [some (.int n), some (.ref r1), some (.ref r2), some (.int by_), some (.int nm), some (.int wt), some (.int num), some (.ref r), some (.int k), some (.ref D), some (.ref s3), some (.ref s4)] ∧ Same H2 H5 ∧ H5 D = some (.lst ys) ∧ PapsIn K (fun l => H' l = none ∧ l ≠ D) H5 ys (ks.map Pap.inn) ∧ ks.length = m ∧ (∀ j ∈ ks, Full (shs ws us) j) ∧ IsMx (prd ws us) ks wt := ⟨_, rfl⟩
  refine ⟨M, ?_, fun σ H5 h => ?_⟩
  · have base : M [some (.int n), some (.ref r1), some (.ref r2), some (.int by_), some (.int nm), some (.int (prd ws us nm)), some (.int num), some (.ref r), some (.int k), some (.ref D), some (.ref s3), some (.ref s4)] H4 := by
      rw [hM]
      refine ⟨_, _, List.replicate m nm, rfl, g3, hD, hps, List.length_replicate, fun j hj => by rw [List.eq_of_mem_replicate hj]; exact hfull, ⟨nm, List.mem_replicate.mpr ⟨by (clear nb y0 y1 hg lx1 ly l1 l2 o1 o2 w3 w4 e1 f1 e2 f2 k1 k2 en epr hnm h'1893 hr1 h'1894 hr2 h'1905 h'1906 n0 n1 d1 d2 d3 d4 d5 h'1937 b2' hm lw7 lu7 lm lpos kb q0 q1 rr0 rr1 e3 f3 e4 f4 k3 k4 h'1997 h'1998 hM lys; omega), rfl⟩, rfl⟩, fun j hj => by rw [List.eq_of_mem_replicate hj]; exact Int.le_refl _⟩
    walk_at "wp"
    refine ⟨by decide, fun _ => ⟨s3, s4, t3, t4, rfl, z3, z4, k3.1.1, k4.1.1, ?_⟩, fun _ => base⟩
    walk_at "wp"
    refine ⟨fun hmt p np => ?_, fun _ => base⟩
    have gp := same_new np (.tup [V.str "in", .int k])
    have hDp := gp _ _ hD
    have ib := modB (num / 900) (show (0 : Int) < (ys.length : Int) by (clear nb y0 y1 hg lx1 ly l1 l2 o1 o2 w3 w4 e1 f1 e2 f2 k1 k2 en epr hnm h'1893 hr1 h'1894 hr2 h'1905 h'1906 n0 n1 d1 d2 d3 d4 d5 h'1937 b2' hm lw7 lu7 lm lpos kb q0 q1 rr0 rr1 e3 f3 e4 f4 k3 k4 h'1997 h'1998 hM hmt; omega))
    refine ⟨divA 10 (by decide) (by decide) (by decide), D, ys, rfl, .inl (SqL.of hDp), by (clear nb y0 y1 hg lx1 ly l1 l2 o1 o2 w3 w4 e1 f1 e2 f2 k1 k2 en epr hnm h'1893 hr1 h'1894 hr2 h'1905 h'1906 n0 n1 d1 d2 d3 d4 d5 h'1937 b2' hm lw7 lu7 lm lpos kb q0 q1 rr0 rr1 e3 f3 e4 f4 k3 k4 h'1997 h'1998 hM hmt ib; omega), ?_⟩
    generalize num / 900 % (ys.length : Int) = ix at ib ⊢
    have ep : lcms [t3.1, t4.1] = prd ws us k := by
      unfold prd
      rw [List.getD_eq_getElem?_getD, f3, List.getD_eq_getElem?_getD, f4]
      rfl
    refine ⟨D, ys, ix, _, rfl, rfl, hDp, ixN_in ib.1 ib.2, s3, s4, t3, t4, rfl, upd_tup hDp (gp _ _ z3), upd_tup hDp (gp _ _ z4), k3.1.1, k4.1.1, k3.2, k4.2, _, _, rfl, ?_⟩
    rw [ep, hM]
    refine ⟨_, _, (List.replicate m nm).set ix.toNat k, rfl, (g3.trans gp).write nD _, upd_same, ?_, by rw [List.length_set, List.length_replicate], fun j hj => ?_, mx_set (by (clear nb y0 y1 hg lx1 ly l1 l2 o1 o2 w3 w4 e1 f1 e2 f2 k1 k2 en epr hnm h'1893 hr1 h'1894 hr2 h'1905 h'1906 n0 n1 d1 d2 d3 d4 d5 h'1937 b2' hm lw7 lu7 lm lpos kb q0 q1 rr0 rr1 e3 f3 e4 f4 k3 k4 h'1997 h'1998 hM hmt ep m23; omega)) m23.1⟩
    · rw [List.map_set]
      exact (PapsIn.setP (.inn upd_same) _ (hps.mono gp)).write hDp fun l hl => hl.2
    · rcases List.mem_or_eq_of_mem_set hj with z | z
      · rw [List.eq_of_mem_replicate z]
        exact hfull
      · rw [z]
        exact full_at kb.1 kb.2 f3 f4 k3.1.1 hmt
  rw [hM] at h
  refine L2.put_away fun G'2037 h'2037 => ?_
  obtain ⟨wt2, ys2, ks, rfl, g4, hD4, hps4, lk, hfk, hmx⟩ := h
  refine h'2037 ?_
  walk_at "wp"
  have ly2 := hps4.len
  rw [List.length_map] at ly2
  refine ⟨D, ys2, rfl, .inl (SqL.of hD4), fun t nt => ?_⟩
  have gt := same_new nt (.tup [V.str "parted", .int ys2.length, .ref D])
  refine rIxL_mk (SqL.of (gt _ _ (g4 _ _ hr))) (v := v2) rfl fun s ns => ?_
  have gs := same_new ns (.lst [.ref t, .int wt2, v2])
  have G := g4.trans (gt.trans gs)
  have dk := inn_dk ks
  refine q s _ (gr.trans G) (gr.free (g4.free (gt.free ns))) ⟨.ref t, v2, .par ys2.length (ks.map Pap.inn), pq, _, upd_same, .par (gs _ _ upd_same) (gs _ _ (gt _ _ hD4)) (gr.free nD) (by (clear nb y0 y1 hg lx1 ly l1 l2 o1 o2 w3 w4 e1 f1 e2 f2 k1 k2 en epr hnm h'1893 hr1 h'1894 hr2 h'1905 h'1906 n0 n1 d1 d2 d3 d4 d5 h'1937 b2' hm lw7 lu7 lm lpos kb q0 q1 rr0 rr1 e3 f3 e4 f4 k3 k4 h'1997 h'1998 hM h'2037 hfk ns dk lys; omega)) ((hps4.imp fun l hl => hl.1).mono (gt.trans gs)), hv2.mono G, ?_, ?_, d3, d4, good_par (by (clear nb y0 y1 hg lx1 ly l1 l2 o1 o2 w3 w4 e1 f1 e2 f2 k1 k2 en epr hnm h'1893 hr1 h'1894 hr2 h'1905 h'1906 n0 n1 d1 d2 d3 d4 d5 h'1937 b2' hm lw7 lu7 lm lpos kb q0 q1 rr0 rr1 e3 f3 e4 f4 k3 k4 h'1997 h'1998 hM h'2037 hfk ns dk lys; omega)) (by rw [List.length_map]; (clear nb y0 y1 hg lx1 ly l1 l2 o1 o2 w3 w4 e1 f1 e2 f2 k1 k2 en epr hnm h'1893 hr1 h'1894 hr2 h'1905 h'1906 n0 n1 d1 d2 d3 d4 d5 h'1937 b2' hm m23 lys lw7 lu7 lm lpos kb q0 q1 rr0 rr1 e3 f3 e4 f4 k3 k4 h'1997 h'1998 hM h'2037 lk hfk ns dk; omega)) (fun p hp => ?_) _ _ _ (by decide) (fun j hj => ?_), ?_, d7⟩
  · unfold Pap.dep
    rw [dk.1]
    exact Nat.le_refl _
  · unfold Pap.kn
    rw [dk.2]
    (clear nb y0 y1 hg lx1 ly l1 l2 o1 o2 w3 w4 e1 f1 e2 f2 k1 k2 en epr hnm h'1893 hr1 h'1894 hr2 h'1905 h'1906 n0 n1 d1 d2 d3 d4 d5 h'1937 b2' hm lw7 lu7 lm lpos kb q0 q1 rr0 rr1 e3 f3 e4 f4 k3 k4 h'1997 h'1998 hM h'2037 hfk ns dk ly2 lys; omega)
  · refine L2.put_away fun G'2054 h'2054 => ?_
    obtain ⟨j, _, rfl⟩ := List.mem_map.mp hp
    refine h'2054 ?_
    exact good_inn j
  · unfold Pap.nm at hj
    rw [nms_inn] at hj
    exact hfk j hj
  · unfold Pap.nm
    rw [nms_inn]
    exact hmx

theorem inn_out {zs : List T3} {s r k : Int} (h : k < 0 ∨ (zs.length : Int) ≤ k) : rightB zs s r (.inn k) = false := by
  unfold rightB
  rcases h with h | h
  · rw [decide_eq_false (by omega), Bool.false_and]
  · rw [decide_eq_false (p := k < (zs.length : Int)) (by omega), Bool.false_and, Bool.and_false]
noncomputable def sp_bad (K : PySem.W.Frag) : Sp := fun vs H Q _ => ∃ (N : Addr → Prop) (n : Int) (v1 v2 : V) (p q : Pap) (zs : List T3), vs = [.int n, v1, .int zs.length, v2] ∧ Builtin.Int.intBits n ≤ 2 ^ 21 ∧ zs.length ≤ 1000 ∧ (∀ l, H l = none → N l) ∧ PapIn K N H v1 p ∧ PapIn K N H v2 q ∧ p.dep ≤ 1 ∧ p.kn ≤ 5 ∧ q.dep ≤ 1 ∧ q.kn ≤ 5 ∧ BadP zs q ∧ ∀ (v : V) (u : Pap) (H' : Hp), Same H H' → PapIn K N H' v u → u.dep ≤ 2 → u.kn ≤ 20 → rightB zs 1 0 u = false → Q v H'
theorem h_law_bad (T : TF K mg "_law_bad" s_law_bad) (G_law_big : Has P w K mg base 1 "_law_big" ["cell"] sp_big) : Has P w K mg base 2 "_law_bad" ["cell", "paper", "many", "wrong"] (sp_bad K) := by
  refine T.has sc_law_bad (fun _ _ _ _ _ _ => L2.bnd4 fun _ _ _ _ => rfl) (fun vs H Q E h => ?_) (fun f cdv A outer s H vs Q E hr h => ?_)
  · refine L2.put_away fun G'2071 h'2071 => ?_
    obtain ⟨N, n, v1, v2, p, q, zs, rfl, _⟩ := h
    refine h'2071 ?_
    rfl
  refine L2.put_away fun G'2073 h'2073 => ?_
  obtain ⟨N, n, v1, v2, p, q, zs, rfl, hn, lz, hN, hv1, hv2, d1, d2, d3, d4, hb, qq⟩ := h
  refine h'2073 ?_
  refine ⟨_, (pss_cons (ps_set (i := 4) sc_law_bad.nd rfl (Or.inl rfl) (pe_def (G_law_big.mono (by first | decide | omega)) hr (pa_cons (pv 0) pa_nil))) (pss_cons (ps_cut (ps_set (i := 5) sc_law_bad.nd rfl (Or.inl rfl) (pe_lst (pa_cons (pe_tup (pa_cons pe_str (pa_cons (pe_op op_add (pv 2) (pe_op op_mod (pe_op op_fdivA (pv 4) pe_int) (pe_op op_pow pe_int pe_int))) pa_nil))) (pa_cons (pe_tup (pa_cons pe_str (pa_cons (pe_op op_sub (pe_un un_neg pe_int) (pe_op op_mod (pe_op op_fdivA (pv 4) pe_int) pe_int)) pa_nil))) (pa_cons (pe_tup (pa_cons pe_str (pa_cons pe_int (pa_cons (pe_lst (pa_cons (pv 1) pa_nil)) pa_nil)))) pa_nil)))))) (pss_cons (ps_cut (ps_set (i := 5) sc_law_bad.nd rfl (Or.inl rfl) (pe_op op_cat (pv 5) (pe_lst (pa_cons (pe_tup (pa_cons pe_str (pa_cons pe_int (pa_cons (pe_lst (pa_cons (pv 1) (pa_cons (pv 1) pa_nil))) pa_nil)))) (pa_cons (pe_tup (pa_cons pe_str (pa_cons pe_int (pa_cons (pe_lst pa_nil) pa_nil)))) (pa_cons (pe_tup (pa_cons pe_str (pa_cons pe_int (pa_cons (pe_lst (pa_cons (pv 1) (pa_cons (pe_tup (pa_cons pe_str (pa_cons (pv 2) pa_nil))) pa_nil))) pa_nil)))) pa_nil))))))) (pss_cons (ps_cut (ps_set (i := 5) sc_law_bad.nd rfl (Or.inl rfl) (pe_op op_cat (pv 5) (pe_lst (pa_cons (pv 3) (pa_cons (pe_tup (pa_cons pe_str (pa_cons pe_int (pa_cons (pe_lst (pa_cons (pv 1) (pa_cons (pv 3) pa_nil))) pa_nil)))) (pa_cons (pv 3) pa_nil))))))) (pss_one (ps_ret (pe_ix ix_list (pv 5) (pe_op op_mod (pv 4) pe_int) (fun _ _ => rfl)))))))), ?_⟩
  have e16 : sizeLine = 16777216 := rfl
  walk_at "wp"
  refine ⟨n, rfl, hn, fun num n0 n1 => ?_⟩
  obtain ⟨Z, hZ⟩ : ∃ Z : Pap → Prop, Z = fun u => u.dep ≤ 2 ∧ u.kn ≤ 20 ∧ rightB zs 1 0 u = false := ⟨_, rfl⟩
  obtain ⟨M, hM⟩ : ∃ M : Nat → St → Hp → Prop, M = fun m σ H' => ∃ (D : Addr) (xs : List V) (us : List Pap), σ = [some (.int n), some v1, some (.int zs.length), some v2, some (.int num), some (.ref D)] ∧ Same H H' ∧ H' D = some (.lst xs) ∧ PapsIn K N H' xs us ∧ us.length = m ∧ ∀ u ∈ us, Z u := ⟨_, rfl⟩
  refine ⟨M 3, ?_, fun σ H' h => ?_⟩
  · walk_at "wp"
    have m8 := modB (num / 8) (show (0 : Int) < 10 ^ Int.toNat 9 by decide)
    have m3 := modB (num / 8) (show (0 : Int) < 3 by decide)
    refine ⟨divA 10 (by decide) (by decide) (by decide), ⟨by decide, by decide, by decide⟩, by decide, fun p0 np0 => ?_⟩
    generalize num / 8 % 10 ^ Int.toNat 9 = y8 at m8 ⊢
    have g1 := same_new np0 (HO.tup [V.str "in", V.int ((zs.length : Int) + y8)])
    have h0 := upd_same (H := H) (a := p0) (o := HO.tup [V.str "in", V.int ((zs.length : Int) + y8)])
    generalize upd H p0 (HO.tup [V.str "in", V.int ((zs.length : Int) + y8)]) = H1 at g1 h0 ⊢
    refine ⟨divA 10 (by decide) (by decide) (by decide), by decide, fun p1 np1 => ?_⟩
    generalize num / 8 % 3 = y3 at m3 ⊢
    have g2 := same_new np1 (HO.tup [V.str "in", V.int (-1 - y3)])
    have h1 := upd_same (H := H1) (a := p1) (o := HO.tup [V.str "in", V.int (-1 - y3)])
    generalize upd H1 p1 (HO.tup [V.str "in", V.int (-1 - y3)]) = H2 at g2 h1 ⊢
    intro p2 np2
    have g3 := same_new np2 (HO.lst [v1])
    have h2 := upd_same (H := H2) (a := p2) (o := HO.lst [v1])
    generalize upd H2 p2 (HO.lst [v1]) = H3 at g3 h2 ⊢
    intro p3 np3
    have g4 := same_new np3 (HO.tup [V.str "parted", V.int 1, V.ref p2])
    have h3 := upd_same (H := H3) (a := p3) (o := HO.tup [V.str "parted", V.int 1, V.ref p2])
    generalize upd H3 p3 (HO.tup [V.str "parted", V.int 1, V.ref p2]) = H4 at g4 h3 ⊢
    intro p4 np4
    have g5 := same_new np4 (HO.lst [V.ref p0, V.ref p1, V.ref p3])
    rw [hM]
    have fp2 := hN _ (g1.free (g2.free np2))
    refine ⟨p4, _, [.inn (zs.length + y8), .inn (-1 - y3), .par 1 [p]], rfl, g1.trans (g2.trans (g3.trans (g4.trans g5))), upd_same, .cons (.inn (g5 _ _ (g4 _ _ (g3 _ _ (g2 _ _ h0))))) (.cons (.inn (g5 _ _ (g4 _ _ (g3 _ _ h1)))) (.cons (.par (g5 _ _ h3) (g5 _ _ (g4 _ _ h2)) fp2 (by simp) (.cons (hv1.mono (g1.trans (g2.trans (g3.trans (g4.trans g5))))) .nil)) .nil)), rfl, fun u hu => ?_⟩
    rw [hZ]
    simp only [List.mem_cons, List.not_mem_nil, or_false] at hu
    rcases hu with rfl | rfl | rfl
    · exact ⟨by simp [Pap.dep], by simp [Pap.kn], inn_out (.inr (by (clear h'2073 hn lz d1 d2 d3 d4 qq e16 n0 n1 hZ hM h0 m3 h1 h3; omega)))⟩
    · exact ⟨by simp [Pap.dep], by simp [Pap.kn], inn_out (.inl (by (clear h'2073 hn lz d1 d2 d3 d4 qq e16 n0 n1 hZ hM m8 h0 h1 h3; omega)))⟩
    · exact ⟨by simp [Pap.dep, Pap.deps]; (clear h'2073 hn lz d2 d3 d4 qq e16 n0 n1 hZ hM m8 h0 m3 h1 h3; omega), by simp [Pap.kn, Pap.kns]; (clear h'2073 hn lz d1 d3 d4 qq e16 n0 n1 hZ hM m8 h0 m3 h1 h3; omega), by unfold rightB; rfl⟩
  rw [hM] at h
  refine L2.put_away fun G'2114 h'2114 => ?_
  obtain ⟨D, xs, us, rfl, gD, hD, hP, lu, hu⟩ := h
  refine h'2114 ?_
  walk_at "wp"
  refine ⟨M 6, ?_, fun σ H6 h => ?_⟩
  · walk_at "wp"
    intro p5 np5
    have g6 := same_new np5 (HO.lst [v1, v1])
    have h5 := upd_same (H := H') (a := p5) (o := HO.lst [v1, v1])
    generalize upd H' p5 (HO.lst [v1, v1]) = H5 at g6 h5 ⊢
    intro p6 np6
    have g7 := same_new np6 (HO.tup [V.str "parted", V.int 3, V.ref p5])
    have h6 := upd_same (H := H5) (a := p6) (o := HO.tup [V.str "parted", V.int 3, V.ref p5])
    generalize upd H5 p6 (HO.tup [V.str "parted", V.int 3, V.ref p5]) = H6 at g7 h6 ⊢
    intro p7 np7
    have g8 := same_new np7 (HO.lst [])
    have h7 := upd_same (H := H6) (a := p7) (o := HO.lst [])
    generalize upd H6 p7 (HO.lst []) = H7 at g8 h7 ⊢
    intro p8 np8
    have g9 := same_new np8 (HO.tup [V.str "parted", V.int 2, V.ref p7])
    have h8 := upd_same (H := H7) (a := p8) (o := HO.tup [V.str "parted", V.int 2, V.ref p7])
    generalize upd H7 p8 (HO.tup [V.str "parted", V.int 2, V.ref p7]) = H8 at g9 h8 ⊢
    intro p9 np9
    have g10 := same_new np9 (HO.tup [V.str "in", V.int (zs.length : Int)])
    have h9 := upd_same (H := H8) (a := p9) (o := HO.tup [V.str "in", V.int (zs.length : Int)])
    generalize upd H8 p9 (HO.tup [V.str "in", V.int (zs.length : Int)]) = H9 at g10 h9 ⊢
    intro p10 np10
    have g11 := same_new np10 (HO.lst [v1, V.ref p9])
    have h10 := upd_same (H := H9) (a := p10) (o := HO.lst [v1, V.ref p9])
    generalize upd H9 p10 (HO.lst [v1, V.ref p9]) = H10 at g11 h10 ⊢
    intro p11 np11
    have g12 := same_new np11 (HO.tup [V.str "parted", V.int 2, V.ref p10])
    have h11 := upd_same (H := H10) (a := p11) (o := HO.tup [V.str "parted", V.int 2, V.ref p10])
    generalize upd H10 p11 (HO.tup [V.str "parted", V.int 2, V.ref p10]) = H11 at g12 h11 ⊢
    intro p12 np12
    have g13 := same_new np12 (HO.lst [V.ref p6, V.ref p8, V.ref p11])
    have h12 := upd_same (H := H11) (a := p12) (o := HO.lst [V.ref p6, V.ref p8, V.ref p11])
    generalize upd H11 p12 (HO.lst [V.ref p6, V.ref p8, V.ref p11]) = H12 at g13 h12 ⊢
    have T12 := g13
    have T11 := g12.trans T12
    have T10 := g11.trans T11
    have T9 := g10.trans T10
    have T8 := g9.trans T9
    have T7 := g8.trans T8
    have T6 := g7.trans T7
    have T5 := g6.trans T6
    have lx := hP.len
    refine ⟨D, p12, _, _, rfl, rfl, T5 _ _ hD, h12, by rw [sizeLine_eq, lx, lu]; simp, fun p13 np13 => ?_⟩
    have g14 := same_new np13 (HO.lst (xs ++ [V.ref p6, V.ref p8, V.ref p11]))
    rw [hM]
    have f5 := hN _ (gD.free np5)
    have f7 := hN _ (gD.free (g6.free (g7.free np7)))
    have f10 := hN _ (gD.free (g6.free (g7.free (g8.free (g9.free (g10.free np10))))))
    have P1 := hv1.mono (gD.trans (T5.trans g14))
    refine ⟨p13, _, us ++ [.par 3 [p, p], .par 2 [], .par 2 [p, .inn zs.length]], rfl, gD.trans (T5.trans g14), upd_same, (hP.mono (T5.trans g14)).append (.cons (.par (g14 _ _ (T7 _ _ h6)) (g14 _ _ (T6 _ _ h5)) f5 (by simp) (.cons P1 (.cons P1 .nil))) (.cons (.par (g14 _ _ (T9 _ _ h8)) (g14 _ _ (T8 _ _ h7)) f7 (by simp) .nil) (.cons (.par (g14 _ _ (T12 _ _ h11)) (g14 _ _ (T11 _ _ h10)) f10 (by simp) (.cons P1 (.cons (.inn (g14 _ _ (T10 _ _ h9))) .nil))) .nil))), by simp [lu], fun u hu' => ?_⟩
    rcases List.mem_append.mp hu' with k | k
    · exact hu u k
    rw [hZ]
    simp only [List.mem_cons, List.not_mem_nil, or_false] at k
    rcases k with rfl | rfl | rfl
    · exact ⟨by simp [Pap.dep, Pap.deps]; (clear h'2073 hn lz d2 d3 d4 qq e16 n0 n1 hZ hM h'2114 lu h6 h8 h9 h11 lx; omega), by simp [Pap.kn, Pap.kns]; (clear h'2073 hn lz d1 d3 d4 qq e16 n0 n1 hZ hM h'2114 lu h6 h8 h9 h11 lx; omega), by unfold rightB; rfl⟩
    · exact ⟨by simp [Pap.dep, Pap.deps], by simp [Pap.kn, Pap.kns], by unfold rightB; rfl⟩
    · exact ⟨by simp [Pap.dep, Pap.deps]; (clear h'2073 hn lz d2 d3 d4 qq e16 n0 n1 hZ hM h'2114 lu h6 h8 h9 h11 lx; omega), by simp [Pap.kn, Pap.kns]; (clear h'2073 hn lz d1 d3 d4 qq e16 n0 n1 hZ hM h'2114 lu h6 h8 h9 h11 lx; omega), by unfold rightB; rw [rightsB_false (i := 1) rfl (inn_out (.inr (by (clear h'2073 hn lz d1 d2 d3 d4 qq e16 n0 n1 hZ hM h'2114 lu h6 h8 h9 h11 lx; omega)))), Bool.and_false, Bool.and_false]⟩
  rw [hM] at h
  refine L2.put_away fun G'2176 h'2176 => ?_
  obtain ⟨D, xs, us, rfl, gD, hD, hP, lu, hu⟩ := h
  refine h'2176 ?_
  walk_at "wp"
  refine ⟨M 9, ?_, fun σ H9 h => ?_⟩
  · walk_at "wp"
    intro p14 np14
    have g15 := same_new np14 (HO.lst [v1, v2])
    have h14 := upd_same (H := H6) (a := p14) (o := HO.lst [v1, v2])
    generalize upd H6 p14 (HO.lst [v1, v2]) = H7 at g15 h14 ⊢
    intro p15 np15
    have g16 := same_new np15 (HO.tup [V.str "parted", V.int 2, V.ref p14])
    have h15 := upd_same (H := H7) (a := p15) (o := HO.tup [V.str "parted", V.int 2, V.ref p14])
    generalize upd H7 p15 (HO.tup [V.str "parted", V.int 2, V.ref p14]) = H8 at g16 h15 ⊢
    intro p16 np16
    have g17 := same_new np16 (HO.lst [v2, V.ref p15, v2])
    have h16 := upd_same (H := H8) (a := p16) (o := HO.lst [v2, V.ref p15, v2])
    generalize upd H8 p16 (HO.lst [v2, V.ref p15, v2]) = H9 at g17 h16 ⊢
    have lx := hP.len
    have T := g15.trans (g16.trans g17)
    refine ⟨D, p16, _, _, rfl, rfl, T _ _ hD, h16, by rw [sizeLine_eq, lx, lu]; simp, fun p17 np17 => ?_⟩
    have g18 := same_new np17 (HO.lst (xs ++ [v2, V.ref p15, v2]))
    rw [hM]
    have f14 := hN _ (gD.free np14)
    have P1 := hv1.mono (gD.trans (T.trans g18))
    have P2 := hv2.mono (gD.trans (T.trans g18))
    refine ⟨p17, _, us ++ [q, .par 2 [p, q], q], rfl, gD.trans (T.trans g18), upd_same, (hP.mono (T.trans g18)).append (.cons P2 (.cons (.par (g18 _ _ (g17 _ _ h15)) (g18 _ _ (g17 _ _ (g16 _ _ h14))) f14 (by simp) (.cons P1 (.cons P2 .nil))) (.cons P2 .nil))), by simp [lu], fun u hu' => ?_⟩
    rcases List.mem_append.mp hu' with k | k
    · exact hu u k
    rw [hZ]
    simp only [List.mem_cons, List.not_mem_nil, or_false] at k
    rcases k with rfl | rfl | rfl
    · exact ⟨by (clear h'2073 hn lz d1 d2 qq e16 n0 n1 hZ hM h'2114 h'2176 lu h15 lx d4; omega), by (clear h'2073 hn lz d1 d2 qq e16 n0 n1 hZ hM h'2114 h'2176 lu h15 lx d3; omega), hb.1⟩
    · exact ⟨by simp [Pap.dep, Pap.deps]; (clear h'2073 hn lz d2 d4 qq e16 n0 n1 hZ hM h'2114 h'2176 lu h15 lx; omega), by simp [Pap.kn, Pap.kns]; (clear h'2073 hn lz d1 d3 qq e16 n0 n1 hZ hM h'2114 h'2176 lu h15 lx; omega), by unfold rightB; rw [rightsB_false (i := 1) rfl (by exact hb.2), Bool.and_false, Bool.and_false]⟩
    · exact ⟨by (clear h'2073 hn lz d1 d2 qq e16 n0 n1 hZ hM h'2114 h'2176 lu h15 lx d4; omega), by (clear h'2073 hn lz d1 d2 qq e16 n0 n1 hZ hM h'2114 h'2176 lu h15 lx d3; omega), hb.1⟩
  rw [hM] at h
  refine L2.put_away fun G'2210 h'2210 => ?_
  obtain ⟨D, xs, us, rfl, gD, hD, hP, lu, hu⟩ := h
  refine h'2210 ?_
  walk_at "wp"
  have nine := modB num (show (0 : Int) < 9 by decide)
  refine ⟨by decide, ?_⟩
  generalize num % 9 = z at nine ⊢
  obtain ⟨zn, rfl⟩ : ∃ zn : Nat, z = (zn : Int) := ⟨z.toNat, by (clear h'2073 hn lz d1 d2 d3 d4 qq e16 n0 n1 hZ hM h'2114 h'2176 h'2210 lu; omega)⟩
  have lx := hP.len
  refine L2.put_away fun G'2217 h'2217 => ?_
  obtain ⟨u, eu, hPu⟩ := hP.at (List.getElem?_eq_getElem (show zn < xs.length by (clear h'2073 hn lz d1 d2 d3 d4 qq e16 n0 n1 hZ hM h'2114 h'2176 h'2210 h'2217; omega)))
  refine h'2217 ?_
  have zu := hu u (List.mem_of_getElem? eu)
  rw [hZ] at zu
  exact rIxL_mk (SqL.of hD) (atI_nat (List.getElem?_eq_getElem (by (clear h'2073 hn lz d1 d2 d3 d4 qq e16 n0 n1 hZ hM h'2114 h'2176 h'2210 h'2217 eu zu; omega)))) (qq _ u H9 gD hPu zu.1 zu.2.1 zu.2.2)
noncomputable def sp_refused63 (K : PySem.W.Frag) : Sp := fun vs H Q _ => ∃ (a b : Addr) (xs ys : List V) (hs : List Hd) (ps : List Pap), vs = [.ref a, .ref b] ∧ H a = some (.lst xs) ∧ Hds H xs hs ∧ H b = some (.lst ys) ∧ PapsIn K anyL H ys ps ∧ hs.length ≤ 50 ∧ (∀ h ∈ hs, h.1.length ≤ 50 ∧ ∀ u ∈ h.1, Wk u ∧ u.1 ≤ 2 ^ 1000) ∧ (∀ p ∈ ps, p.dep < 3 ∧ p.kn < 64) ∧ (hs.length = ps.length + 1 → ∃ (i : Nat) (h g : Hd) (p : Pap), hs[i]? = some h ∧ hs[i + 1]? = some g ∧ ps[i]? = some p ∧ rightB (shs h.1 g.1) 1 0 p = false) ∧ ∀ H', Same H H' → Q (.bl true) H'
theorem h_law_refused {c_MeetError c_NoPlan c_NoPaper c_NoPrimes c_TooMany c_NoText c_NoName c_NoRow : Addr} (O_MeetError : OX K mg "MeetError" c_MeetError VE) (O_NoPlan : OX K mg "NoPlan" c_NoPlan (.ref c_MeetError :: VE)) (O_NoPaper : OX K mg "NoPaper" c_NoPaper (.ref c_MeetError :: VE)) (O_NoPrimes : OX K mg "NoPrimes" c_NoPrimes (.ref c_MeetError :: VE)) (O_TooMany : OX K mg "TooMany" c_TooMany (.ref c_MeetError :: VE)) (O_NoText : OX K mg "NoText" c_NoText (.ref c_MeetError :: VE)) (O_NoName : OX K mg "NoName" c_NoName (.ref c_MeetError :: VE)) (O_NoRow : OX K mg "NoRow" c_NoRow (.ref c_MeetError :: VE)) (Z_NoPaper : OC K c_NoPaper) (ndE : [c_MeetError, c_NoPlan, c_NoPaper, c_NoPrimes, c_TooMany, c_NoText, c_NoName, c_NoRow].Nodup) (T : TF K mg "_law_refused" s_law_refused) (m_isinstance : mg "isinstance" = none) (m_ValueError : mg "ValueError" = none) (G_waits_of : HasX P w K mg base 10 "waits_of" ["hands", "papers"] (sp_waitsX K c_NoPaper 3)) : Has P w K mg base 11 "_law_refused" ["hands", "papers"] (sp_refused63 K) := by
  refine T.has sc_law_refused (fun _ _ _ _ _ _ => L2.bnd2 fun _ _ => rfl) (fun vs H Q E h => ?_) (fun f cdv A outer s H vs Q E hr h => ?_)
  · refine L2.put_away fun G'2224 h'2224 => ?_
    obtain ⟨a, b, xs, ys, hs, ps, rfl, _⟩ := h
    refine h'2224 ?_
    rfl
  refine L2.put_away fun G'2226 h'2226 => ?_
  obtain ⟨a, b, xs, ys, hs, ps, rfl, hA, hH, hB, hP, h50, hw, hk, hbad, q⟩ := h
  refine h'2226 ?_
  refine ⟨_, (pss_cons (ps_set (i := 2) sc_law_refused.nd rfl (Or.inl rfl) pe_non) (pss_cons (ps_try rfl rfl rfl (pxs_expr (pxe_call rfl (G_waits_of.mono (by first | decide | omega)) hr (pa_cons (pv 0) (pa_cons (pv 1) pa_nil)))) (ph_cons_as (i := 3) rfl sc_law_refused.nd (fun _ => pm_own O_NoPaper O_MeetError) (fun _ => (pss_one (ps_set (i := 2) sc_law_refused.nd rfl (Or.inl rfl) (pv 3)))) ph_nil)) (pss_cons (ps_if (PW.pt (pw_or (pt_val (pe_callB (call_isXO Z_NoPaper O_NoPaper (by simp) O_NoPlan) rfl m_isinstance (by decide +kernel) (pa_cons (pv 2) (pa_cons (pe_glob (v := .ref c_NoPlan) rfl O_NoPlan.bound rfl) pa_nil))) (fun _ => rfl)) (pw_or (pt_val (pe_callB (call_isXO Z_NoPaper O_NoPaper (by simp) O_NoPrimes) rfl m_isinstance (by decide +kernel) (pa_cons (pv 2) (pa_cons (pe_glob (v := .ref c_NoPrimes) rfl O_NoPrimes.bound rfl) pa_nil))) (fun _ => rfl)) (pw_or1 (pt_val (pe_callB (call_isXO Z_NoPaper O_NoPaper (by simp) O_TooMany) rfl m_isinstance (by decide +kernel) (pa_cons (pv 2) (pa_cons (pe_glob (v := .ref c_TooMany) rfl O_TooMany.bound rfl) pa_nil))) (fun _ => rfl)))))) (pss_one (ps_ret pe_bl)) pss_nil) (pss_cons (ps_if (PW.pt (pw_or (pt_val (pe_callB (call_isXO Z_NoPaper O_NoPaper (by simp) O_NoText) rfl m_isinstance (by decide +kernel) (pa_cons (pv 2) (pa_cons (pe_glob (v := .ref c_NoText) rfl O_NoText.bound rfl) pa_nil))) (fun _ => rfl)) (pw_or (pt_val (pe_callB (call_isXO Z_NoPaper O_NoPaper (by simp) O_NoName) rfl m_isinstance (by decide +kernel) (pa_cons (pv 2) (pa_cons (pe_glob (v := .ref c_NoName) rfl O_NoName.bound rfl) pa_nil))) (fun _ => rfl)) (pw_or1 (pt_val (pe_callB (call_isXO Z_NoPaper O_NoPaper (by simp) O_NoRow) rfl m_isinstance (by decide +kernel) (pa_cons (pv 2) (pa_cons (pe_glob (v := .ref c_NoRow) rfl O_NoRow.bound rfl) pa_nil))) (fun _ => rfl)))))) (pss_one (ps_ret pe_bl)) pss_nil) (pss_one (ps_ret (pe_and (pe_callB (call_isXO Z_NoPaper O_NoPaper (by simp) O_NoPaper) rfl m_isinstance (by decide +kernel) (pa_cons (pv 2) (pa_cons (pe_glob (v := .ref c_NoPaper) rfl O_NoPaper.bound rfl) pa_nil))) (pe_one (pe_callB (call_isXT (T := "ValueError") O_NoPaper (by simp) (by decide +kernel)) rfl m_isinstance (by decide +kernel) (pa_cons (pv 2) (pa_cons (pe_bltn (v := .ty "ValueError") rfl m_ValueError (by decide +kernel) rfl) pa_nil))))))))))), ?_⟩
  walk_at "wp"
  have hc : (Value.ref c_NoPaper :: Value.ref c_MeetError :: VE).contains (Value.ref c_MeetError) = true := by simp
  unfold tTry
  walk_at "wp"
  refine ⟨a, b, xs, ys, hs, ps, rfl, hA, hH, hB, hP, h50, hw, hk, hbad, fun x H' g hx => ⟨x, rfl, rfl, ?_⟩⟩
  unfold tBool
  rw [hc]
  unfold tSuiteAs
  walk_at "wp"
  have hxx : (upd H' x (excO x (.ref c_NoPaper))) x = some (excO x (.ref c_NoPaper)) := upd_same
  have no : ∀ C ∈ [c_NoPlan, c_NoPrimes, c_TooMany, c_NoText, c_NoName, c_NoRow], (Value.ref c_NoPaper :: Value.ref c_MeetError :: VE).contains (Value.ref C) = false := fun C hC => by
    simp only [List.nodup_cons, List.mem_cons, List.not_mem_nil, or_false, not_or] at ndE
    refine L2.put_away fun G'2240 h'2240 => ?_
    obtain ⟨⟨m1, m2, m3, m4, m5, m6, m7⟩, ⟨p2, p3, p4, p5, p6, p7⟩, ⟨q3, q4, q5, q6, q7⟩, _⟩ := ndE
    refine h'2240 ?_
    simp only [List.contains_cons, Bool.or_eq_false_iff, beq_eq_false_iff_ne, ne_eq, Value.ref.injEq]
    refine ⟨fun z => ?_, fun z => ?_, by simp⟩
    all_goals
      simp only [List.mem_cons, List.not_mem_nil, or_false] at hC
      rcases hC with rfl | rfl | rfl | rfl | rfl | rfl
    · exact p2 z
    · exact q3 z.symm
    · exact q4 z.symm
    · exact q5 z.symm
    · exact q6 z.symm
    · exact q7 z.symm
    · exact m1 z.symm
    · exact m3 z.symm
    · exact m4 z.symm
    · exact m5 z.symm
    · exact m6 z.symm
    · exact m7 z.symm
  refine ⟨x, rfl, hxx, _, rfl, fun z => (by rw [no _ (by simp)] at z; cases z), fun _ => ?_⟩
  refine ⟨x, rfl, hxx, _, rfl, fun z => (by rw [no _ (by simp)] at z; cases z), fun _ => ?_⟩
  refine ⟨x, rfl, hxx, _, rfl, fun z => (by rw [no _ (by simp)] at z; cases z), fun _ => ?_⟩
  refine ⟨x, rfl, hxx, _, rfl, fun z => (by rw [no _ (by simp)] at z; cases z), fun _ => ?_⟩
  refine ⟨x, rfl, hxx, _, rfl, fun z => (by rw [no _ (by simp)] at z; cases z), fun _ => ?_⟩
  refine ⟨x, rfl, hxx, _, rfl, fun z => (by rw [no _ (by simp)] at z; cases z), fun _ => ?_⟩
  refine ⟨x, rfl, hxx, _, rfl, fun _ => ⟨x, rfl, hxx, q _ ?_⟩, fun z => (z (by simp)).elim⟩
  exact g.write (g.free hx) _

noncomputable def Rws (H : Hp) (by_ : Int) (xs : List V) (rs : List (List T3 × Nat × Nat)) : Prop := xs.length = rs.length ∧ ∀ (i : Nat) t, rs[i]? = some t → ∃ r, xs[i]? = some (.ref r) ∧ RowAt H r by_ ((i % 2 : Nat) : Int) t.1 t.2.1 t.2.2
theorem Rws.same {H H' : Hp} {by_ : Int} {xs : List V} {rs : List (List T3 × Nat × Nat)} (g : Same H H') (h : Rws H by_ xs rs) : Rws H' by_ xs rs := ⟨h.1, fun i t e => let ⟨r, e1, e2⟩ := h.2 i t e; ⟨r, e1, e2.same g⟩⟩
theorem Rws.snoc {H : Hp} {by_ : Int} {xs : List V} {rs : List (List T3 × Nat × Nat)} {r : Addr} {t : List T3 × Nat × Nat} (h : Rws H by_ xs rs) (e : RowAt H r by_ ((rs.length % 2 : Nat) : Int) t.1 t.2.1 t.2.2) : Rws H by_ (xs ++ [.ref r]) (rs ++ [t]) := by
  refine ⟨by simp [h.1], fun i u eu => ?_⟩
  by_cases c : i < rs.length
  · rw [List.getElem?_append_left c] at eu
    refine L2.put_away fun G'2273 h'2273 => ?_
    obtain ⟨r', e1, e2⟩ := h.2 i u eu
    refine h'2273 ?_
    exact ⟨r', by rw [List.getElem?_append_left (by rw [h.1]; exact c)]; exact e1, e2⟩
  · have lu := (List.getElem?_eq_some_iff.mp eu).1
    rw [List.length_append, List.length_singleton] at lu
    have ei : i = rs.length := by (clear eu; omega)
    subst ei
    rw [List.getElem?_append_right (by (clear eu c lu; omega)), Nat.sub_self] at eu
    cases eu
    refine ⟨r, ?_, e⟩
    rw [List.getElem?_append_right (by rw [h.1]; (clear c lu; omega)), h.1, Nat.sub_self]
    rfl

noncomputable def Trios (hs : List Hd) (ps qs : List Pap) : Prop := ∀ (i : Nat) (h g : Hd) (p q : Pap), hs[i]? = some h → hs[i + 1]? = some g → ps[i]? = some p → qs[i]? = some q → p.dep ≤ 1 ∧ p.kn ≤ 5 ∧ q.dep ≤ 1 ∧ q.kn ≤ 5 ∧ rightB (shs h.1 g.1) 1 0 p = true ∧ BadP (shs h.1 g.1) q
noncomputable def sp_made (K : PySem.W.Frag) : Sp := fun vs H Q _ => ∃ (a : Addr) (ns : List Int), vs = [.ref a] ∧ SqL K H a (ns.map V.int) ∧ (∀ c ∈ ns, Builtin.Int.intBits c ≤ 2 ^ 20) ∧ ∀ (r A B C : Addr) (xs ys us : List V) (hs : List Hd) (ps qs : List Pap) (Ms : List Int) (H' : Hp), Same H H' → H' r = some (.lst [.ref A, .ref B, .int Ms.sum, .ref C]) → H' A = some (.lst xs) → Hds H' xs hs → H' B = some (.lst ys) → PapsIn K anyL H' ys ps → H' C = some (.lst us) → PapsIn K anyL H' us qs → hs.length = ps.length + 1 → qs.length = ps.length → hs.length ≤ 6 → (∀ h ∈ hs, h.1.length ≤ 7 ∧ ∀ u ∈ h.1, Wk u ∧ u.1 ≤ 10 ^ 60) → Waits hs ps Ms → Trios hs ps qs → Q (.ref r) H'
theorem h_law_made (T : TF K mg "_law_made" s_law_made) (m_len : mg "len" = none) (m_range : mg "range" = none) (G_law_cell_at : Has P w K mg base 1 "_law_cell_at" ["script", "k"] (sp_cell_at K)) (G_law_big : Has P w K mg base 1 "_law_big" ["cell"] sp_big) (G_law_plan : Has P w K mg base 2 "_law_plan" ["cell", "part", "by", "great"] sp_row) (G_law_paper : Has P w K mg base 4 "_law_paper" ["cell", "one", "other", "by"] (sp_trioC K)) :
    Has P w K mg base 5 "_law_made" ["script"] (sp_made K) := by
  refine T.has sc_law_made (fun _ _ _ _ _ _ => L2.bnd1 fun _ => rfl) (fun vs H Q E h => ?_) (fun f cdv A outer s H vs Q E hr h => ?_)
  · refine L2.put_away fun G'2290 h'2290 => ?_
    obtain ⟨a, ns, rfl, _⟩ := h
    refine h'2290 ?_
    rfl
  refine L2.put_away fun G'2292 h'2292 => ?_
  obtain ⟨a, ns, rfl, hS, hbits, q⟩ := h
  refine h'2292 ?_
  refine ⟨_, (pss_cons (ps_set (i := 1) sc_law_made.nd rfl (Or.inl rfl) (pe_def (G_law_big.mono (by first | decide | omega)) hr (pa_cons (pe_def (G_law_cell_at.mono (by first | decide | omega)) hr (pa_cons (pv 0) (pa_cons pe_int pa_nil))) pa_nil))) (pss_cons (ps_cut (ps_set (i := 2) sc_law_made.nd rfl (Or.inr rfl) (pe_op op_add pe_int (pe_op op_mod (pe_op op_fdivA (pv 1) pe_int) (pe_ix ix_list (pe_lst (pa_cons pe_int (pa_cons (pe_op op_pow pe_int pe_int) pa_nil))) (pe_op op_mod (pe_def (G_law_cell_at.mono (by first | decide | omega)) hr (pa_cons (pv 0) (pa_cons pe_int pa_nil))) pe_int) (fun _ _ => rfl)))))) (pss_cons (ps_set (i := 3) sc_law_made.nd rfl (Or.inr rfl) (pe_op op_add pe_int (pe_op op_mod (pe_op op_fdivA (pv 1) pe_int) pe_int))) (pss_cons (ps_cut (ps_set (i := 5) sc_law_made.nd rfl (Or.inr rfl) (pe_comp (CompSc.capt (own := ["k"]) (capt := ["script", "part", "by"]) (fr := [0, 2, 3]) rfl ⟨rfl, rfl, rfl, rfl, rfl, ⟨rfl, rfl, rfl, rfl, rfl, ⟨rfl, rfl, rfl, rfl, rfl, trivial⟩⟩⟩ (by decide +kernel) (by decide +kernel) rfl (by decide +kernel)) rfl (pi_range1 rfl m_range (pa_cons (pe_op op_add pe_int (pe_op op_mod (pv 1) pe_int)) pa_nil)) (fun _ _ _ => (pg_name (i := 0) (show (["k", "script", "part", "by"] : List Str).Nodup from by decide +kernel) rfl (Or.inl rfl) (Or.inr rfl))) (fun _ _ _ => pts_nil) (fun _ _ _ => (pe_def (G_law_plan.mono (by first | decide | omega)) hr (pa_cons (pe_def (G_law_cell_at.mono (by first | decide | omega)) hr (pa_cons (pv 1) (pa_cons (pe_op op_add pe_int (pe_op op_mulA pe_int (pv 0))) pa_nil))) (pa_cons (pv 2) (pa_cons (pv 3) (pa_cons (pe_op op_mod (pv 0) pe_int) pa_nil))))))))) (pss_cons (ps_cut (ps_setComp (i := 6) sc_law_made.nd rfl (Or.inl rfl) (CompSc.capt (own := ["k"]) (capt := ["script", "rows"]) (fr := [0, 5]) rfl ⟨rfl, rfl, rfl, rfl, rfl, ⟨rfl, rfl, rfl, rfl, rfl, trivial⟩⟩ (by decide +kernel) (by decide +kernel) rfl (by decide +kernel)) rfl (pi_range1 rfl m_range (pa_cons (pe_callB call_len_seq rfl m_len PySem.boot_len (pa_cons (pv 5) pa_nil)) pa_nil)) (fun _ _ _ => (pg_name (i := 0) (show (["k", "script", "rows"] : List Str).Nodup from by decide +kernel) rfl (Or.inl rfl) (Or.inr rfl))) (fun _ _ _ => pts_nil) (fun _ _ _ => (pe_tup (pa_cons (pe_ix (ix_listK (K := K) rfl) (pe_ix (ix_listK (K := K) rfl) (pv 2) (pv 0) (fun _ _ => rfl)) pe_int (fun _ _ => rfl)) (pa_cons (pe_op op_sub (pe_def (G_law_big.mono (by first | decide | omega)) hr (pa_cons (pe_def (G_law_cell_at.mono (by first | decide | omega)) hr (pa_cons (pv 1) (pa_cons (pe_op op_add pe_int (pe_op op_mulA pe_int (pv 0))) pa_nil))) pa_nil)) (pe_op op_pow pe_int pe_int)) pa_nil)))))) (pss_cons (ps_set (i := 7) sc_law_made.nd rfl (Or.inl rfl) (pe_lst pa_nil)) (pss_cons (ps_set (i := 8) sc_law_made.nd rfl (Or.inl rfl) (pe_lst pa_nil)) (pss_cons (ps_set (i := 9) sc_law_made.nd rfl (Or.inl rfl) pe_int) (pss_cons (ps_for PassesOwn.never rfl (pi_range2 rfl m_range (pa_cons pe_int (pa_cons (pe_callB call_len_seq rfl m_len PySem.boot_len (pa_cons (pv 5) pa_nil)) pa_nil))) (pg_name (i := 4) sc_law_made.nd rfl (Or.inl rfl)) (pss_cons (ps_asg (pe_def (G_law_paper.mono (by first | decide | omega)) hr (pa_cons (pe_def (G_law_cell_at.mono (by first | decide | omega)) hr (pa_cons (pv 0) (pa_cons (pe_op op_add pe_int (pv 4)) pa_nil))) (pa_cons (pe_ix ix_list (pv 5) (pe_op op_sub (pv 4) pe_int) (fun _ _ => rfl)) (pa_cons (pe_ix ix_list (pv 5) (pv 4) (fun _ _ => rfl)) (pa_cons (pv 3) pa_nil))))) (pg_lst rfl (pgs_cons (pg_name (i := 10) sc_law_made.nd rfl (Or.inl rfl)) (pgs_cons (pg_name (i := 11) sc_law_made.nd rfl (Or.inl rfl)) (pgs_cons (pg_name (i := 12) sc_law_made.nd rfl (Or.inl rfl)) pgs_nil))))) (pss_cons (ps_expr (pe_bm PySem.F.plainAttrs_list PySem.F.slot_list_append PySem.F.type_list_append mt_append (pv 7) (pa_cons (pv 10) pa_nil))) (pss_cons (ps_expr (pe_bm PySem.F.plainAttrs_list PySem.F.slot_list_append PySem.F.type_list_append mt_append (pv 8) (pa_cons (pv 12) pa_nil))) (pss_one (ps_set (i := 9) sc_law_made.nd rfl (Or.inl rfl) (pe_op op_add (pv 9) (pv 11)))))))) (pss_one (ps_ret (pe_lst (pa_cons (pv 6) (pa_cons (pv 7) (pa_cons (pv 9) (pa_cons (pv 8) pa_nil)))))))))))))))), ?_⟩
  have b21 : ∀ j : Nat, Builtin.Int.intBits (ns.getD j 0) ≤ 2 ^ 21 := fun j => Nat.le_trans (bitsGetD hbits) (by decide)
  walk_at "wp"
  refine ⟨a, ns, 0, rfl, hS, by decide, _, rfl, b21 _, fun num n0 n1 => ?_⟩
  have b3 := modB (num / 100) (show (0 : Int) < 3 by decide)
  have n6 := modB num (show (0 : Int) < 6 by decide)
  refine ⟨fun σ H1 => ∃ part : Int, σ = [some (.ref a), some (.int num), some (.int part), none, none, none, none, none, none, none, none, none, none] ∧ Same H H1 ∧ 1 ≤ part ∧ part ≤ 10 ^ 30, ?_, ?_⟩
  · walk_at "wp"
    refine ⟨divA 10 (by decide) (by decide) (by decide), ⟨by decide, by decide, by decide⟩, fun p1 z1 => ?_⟩
    have g1 := same_new z1 (IL [7, 10 ^ Int.toNat 30])
    have h1 := upd_same (H := H) (a := p1) (o := IL [7, 10 ^ Int.toNat 30])
    generalize hH1 : upd H p1 (IL [7, 10 ^ Int.toNat 30]) = H1 at g1 h1
    have eH1 : upd H p1 (HO.lst [V.int 7, V.int (10 ^ Int.toNat 30)]) = H1 := hH1
    rw [eH1]
    refine ⟨a, ns, 1, rfl, g1.seq hS, by decide, ?_⟩
    generalize ns.getD (Int.toNat 1) 0 = c1
    have s3 := modB c1 (show (0 : Int) < 2 by decide)
    have pv := getD_all (Pz := fun z => 1 ≤ z ∧ z ≤ 10 ^ 30) (zs := [7, 10 ^ Int.toNat 30]) (i := (c1 % 2).toNat) (by decide) (by simp; (clear hbits q b21 n0 n1 b3 n6 hH1 h1 eH1 s3; omega))
    walk_at "wp"
    refine ⟨by decide, rIxL_mk (SqL.of h1) (atI_getD (zs := [7, 10 ^ Int.toNat 30]) s3.1 (by simp; (clear hbits q b21 n0 n1 b3 n6 hH1 h1 eH1 pv s3; omega))) ?_⟩
    generalize ([7, 10 ^ Int.toNat 30] : List Int).getD (c1 % 2).toNat 0 = md at pv
    have pm := modB (num / 6) (show 0 < md by (clear hbits q b21 n0 n1 b3 n6 hH1 h1 eH1 s3; omega))
    walk_at "wp"
    exact ⟨by (clear hbits q b21 n0 n1 b3 n6 hH1 h1 eH1 s3 pm; omega), _, rfl, g1, by (clear hbits q b21 n0 n1 b3 n6 hH1 h1 eH1 s3 pv; omega), by (clear hbits q b21 n0 n1 b3 n6 hH1 h1 eH1 s3; omega)⟩
  rintro σ H1 ⟨part, rfl, g1, pt0, pt1⟩
  have pt : 1 ≤ part ∧ part ≤ 10 ^ 30 := ⟨pt0, pt1⟩
  walk_at "wp"
  refine ⟨divA 10 (by decide) (by decide) (by decide), by decide, ?_⟩
  have yb : 2 ≤ 2 + num / 100 % 3 ∧ 2 + num / 100 % 3 ≤ 4 := by (clear hbits q b21 n0 n1 n6 pt0 pt1 pt b3; omega)
  generalize 2 + num / 100 % 3 = by_ at yb
  obtain ⟨m, hm⟩ : ∃ m : Nat, (1 + num % 6).toNat = m := ⟨_, rfl⟩
  have m16 : 1 ≤ m ∧ m ≤ 6 := by (clear hbits q b21 n0 n1 b3 pt0 pt1 pt yb n6; omega)
  refine ⟨fun σ H2 => ∃ (R : Addr) (rx : List V) (rs : List (List T3 × Nat × Nat)), σ = [some (.ref a), some (.int num), some (.int part), some (.int by_), none, some (.ref R), none, none, none, none, none, none, none] ∧ Same H1 H2 ∧ H2 R = some (.lst rx) ∧ Rws H2 by_ rx rs ∧ rs.length = m, ?_, ?_⟩
  · walk_at "wp"
    refine ⟨by decide, _, rfl, by (clear hbits q b21 n0 n1 b3 pt0 pt1 pt yb hm m16 n6; omega), by (clear hbits q b21 n0 n1 b3 pt0 pt1 pt yb hm m16 n6; omega), ?_⟩
    rw [hm]
    obtain ⟨Sv, hSv⟩ : ∃ Sv : St → Prop, Sv = fun σ => ∃ o, σ = [o, some (.ref a), some (.int part), some (.int by_)] := ⟨_, rfl⟩
    obtain ⟨Pv, hPv⟩ : ∃ Pv : Addr → Nat → List V → Hp → Prop, Pv = fun D i ys H3 => H1 D = none ∧ Same H1 H3 ∧ ∃ rs, Rws (era H3 D) by_ ys rs ∧ rs.length = i := ⟨_, rfl⟩
    refine compW_range Sv Pv (by rw [hSv]; exact ⟨none, rfl⟩) (fun D hD => ?_) (fun D i ys σ H3 hi hs hD hy h => ?_) (fun R rx H2 hR h => ?_)
    · rw [hPv]
      exact ⟨hD, same_new hD _, [], ⟨rfl, fun i t e => by simp at e⟩, rfl⟩
    · rw [hSv] at hs
      rw [hPv] at h
      obtain ⟨o, rfl⟩ := hs
      refine L2.put_away fun G'2337 h'2337 => ?_
      obtain ⟨nD, g, rs, hrs, lr⟩ := h
      refine h'2337 ?_
      have e0 : (0 : Int) + (i : Int) = i := by (clear hbits q b21 n0 n1 b3 n6 pt0 pt1 pt yb hm m16 hPv hi hy h'2337 lr; omega)
      rw [e0]
      have ep : (i : Int) % 2 = ((i % 2 : Nat) : Int) := by (clear hbits q b21 n0 n1 b3 n6 pt0 pt1 pt yb hm m16 hPv hi hy h'2337 lr e0; omega)
      walk_at "wp"
      refine ⟨mokS (by (clear hbits q b21 n0 n1 b3 n6 pt0 pt1 pt yb hm m16 hPv hi hy h'2337 e0 ep lr; omega)) (by (clear hbits q b21 n0 n1 b3 n6 pt0 pt1 pt yb hm hPv hy h'2337 e0 ep lr; omega)), a, ns, _, rfl, (g1.trans g).seq hS, by (clear hbits q b21 n0 n1 b3 n6 pt0 pt1 pt yb hm m16 hPv hi hy h'2337 e0 ep lr; omega), by decide, _, _, _, _, rfl, b21 _, pt.1, pt.2, yb.1, yb.2, by (clear hbits q b21 n0 n1 b3 n6 pt0 pt1 pt yb hm m16 hPv hi hy h'2337 e0 ep lr; omega), by (clear hbits q b21 n0 n1 b3 n6 pt0 pt1 pt yb hm m16 hPv hi hy h'2337 e0 ep lr; omega), fun r L xs ws at_ bs H4 g4 nr nL hr hL hP hRow => ?_⟩
      have hD4 := g4 _ _ hD
      have nrD : r ≠ D := fun e => by rw [e, hD] at nr; cases nr
      have nLD : L ≠ D := fun e => by rw [e, hD] at nL; cases nL
      refine CompP.mk hD4 hy (by rw [sizeLine_eq]; (clear hbits q b21 n0 n1 b3 n6 pt0 pt1 pt yb hm hPv hy h'2337 e0 ep hr lr; omega)) (by rw [hSv]; exact ⟨_, rfl⟩) (by
        rw [hPv]
        refine ⟨nD, (g.trans g4).write nD _, rs ++ [(ws, at_, bs)], ?_, by simp [lr]⟩
        rw [era_upd]
        refine (hrs.same (Same.era g4)).snoc ?_
        rw [lr, ← ep]
        exact RowAt.era hD4 nrD nLD hr hL hP hRow)
    rw [hPv] at h
    refine L2.put_away fun G'2354 h'2354 => ?_
    obtain ⟨nR, g2, rs, hrs, lr⟩ := h
    refine h'2354 ?_
    exact ⟨R, rx, rs, rfl, g2, hR, hrs.same era_le, lr⟩
  rintro σ H2 ⟨R, rx, rs, rfl, g2, hR, hrs, lr⟩
  have lrx := hrs.1
  walk_at "wp"
  have rat : ∀ i : Nat, i < m → ∃ t r L xs, rs[i]? = some t ∧ rx[i]? = some (.ref r) ∧ H2 r = some (.lst [.ref L, .int (t.2.1 : Int), .int (t.2.2 : Int)]) ∧ H2 L = some (.lst xs) ∧ Pl H2 xs t.1 ∧ Row by_ ((i % 2 : Nat) : Int) t.1 t.2.1 t.2.2 := fun i hi => by
    have e : rs[i]? = some (rs[i]'(by (clear hbits q b21 n0 n1 b3 n6 pt0 pt1 pt yb hm m16 lrx; omega))) := List.getElem?_eq_getElem (by (clear hbits q b21 n0 n1 b3 n6 pt0 pt1 pt yb hm m16 lrx; omega))
    refine L2.put_away fun G'2361 h'2361 => ?_
    obtain ⟨r, e1, L, xs, q1, q2, q3, q4⟩ := hrs.2 i _ e
    refine h'2361 ?_
    exact ⟨_, r, L, xs, e, e1, q1, q2, q3, q4⟩
  refine ⟨fun σ H5 => ∃ (HD : Addr) (hx : List V) (hs : List Hd), σ = [some (.ref a), some (.int num), some (.int part), some (.int by_), none, some (.ref R), some (.ref HD), none, none, none, none, none, none] ∧ Same H2 H5 ∧ H5 HD = some (.lst hx) ∧ Hds H5 hx hs ∧ hs.length = m ∧ ∀ (j : Nat) h, hs[j]? = some h → ∃ t, rs[j]? = some t ∧ h.1 = t.1, ?_, ?_⟩
  · walk_at "wp"
    refine ⟨_, _, rfl, .inl (SqL.of hR), _, rfl, by (clear hbits q b21 n0 n1 b3 n6 pt0 pt1 pt yb hm rat lrx lr m16; omega), by (clear hbits q b21 n0 n1 b3 n6 pt0 pt1 pt yb hm rat; omega), ?_⟩
    rw [lrx, lr, Int.toNat_natCast]
    obtain ⟨Sv, hSv⟩ : ∃ Sv : St → Prop, Sv = fun σ => ∃ o, σ = [o, some (.ref a), some (.ref R)] := ⟨_, rfl⟩
    obtain ⟨Pv, hPv⟩ : ∃ Pv : Addr → Nat → List V → Hp → Prop, Pv = fun D i ys H4 => H2 D = none ∧ Same H2 H4 ∧ ∃ hs : List Hd, Hds (era H4 D) ys hs ∧ hs.length = i ∧ ∀ (j : Nat) h, hs[j]? = some h → ∃ t, rs[j]? = some t ∧ h.1 = t.1 := ⟨_, rfl⟩
    refine compW_range Sv Pv (by rw [hSv]; exact ⟨none, rfl⟩) (fun D hD => ?_) (fun D i ys σ H3 hi hs hD hy h => ?_) (fun HD hx H5 hHD h => ?_)
    · rw [hPv]
      exact ⟨hD, same_new hD _, [], .nil, rfl, fun j h e => by simp at e⟩
    · rw [hSv] at hs
      rw [hPv] at h
      obtain ⟨o, rfl⟩ := hs
      refine L2.put_away fun G'2375 h'2375 => ?_
      obtain ⟨nD, g, hs, hH, lh, hsr⟩ := h
      refine h'2375 ?_
      have e0 : (0 : Int) + (i : Int) = i := by (clear hbits q b21 n0 n1 b3 n6 pt0 pt1 pt yb hm m16 lr lrx rat hPv hi hy h'2375 lh hsr; omega)
      rw [e0]
      refine L2.put_away fun G'2378 h'2378 => ?_
      obtain ⟨t, r, L, xs, et, e1, q1, q2, q3, q4⟩ := rat i hi
      refine h'2378 ?_
      have nLD : L ≠ D := ne_of_none q2 nD
      walk_at "wp"
      refine rIxL_mk (SqL.of (g _ _ hR)) (atI_nat e1) (rIxL_mk (SqL.of (g _ _ q1)) (v := .ref L) rfl ?_)
      walk_at "wp"
      refine ⟨mokS (by (clear hbits q b21 n0 n1 b3 n6 pt0 pt1 pt yb hm m16 lr lrx rat hPv hi hy h'2375 hsr e0 h'2378 et e1 q1 lh; omega)) (by (clear hbits q b21 n0 n1 b3 n6 pt0 pt1 pt yb hm rat hPv hy h'2375 hsr e0 h'2378 et e1 q1 lh lrx lr; omega)), a, ns, _, rfl, (g1.trans (g2.trans g)).seq hS, by (clear hbits q b21 n0 n1 b3 n6 pt0 pt1 pt yb hm m16 lr lrx rat hPv hi hy h'2375 hsr e0 h'2378 et e1 q1 lh; omega), _, rfl, b21 _, fun d d0 d1 => ?_⟩
      walk_at "wp"
      refine ⟨⟨by decide, by decide, by decide⟩, fun p np => ?_⟩
      have gp := same_new np (.tup [.ref L, .int (d - 10 ^ Int.toNat 59)])
      have hDp := gp _ _ hD
      refine CompP.mk hDp hy (by rw [sizeLine_eq]; (clear hbits q b21 n0 n1 b3 n6 pt0 pt1 pt yb hm rat hPv hy h'2375 hsr e0 h'2378 et e1 q1 d0 d1 hDp lh lrx lr; omega)) (by rw [hSv]; exact ⟨_, rfl⟩) (by
        rw [hPv]
        refine ⟨nD, (g.trans gp).write nD _, hs ++ [(t.1, d - 10 ^ Int.toNat 59)], (hH.same (Same.era gp)).snocE hDp upd_same ((g.trans gp) _ _ q2) nLD (q3.same (g.trans gp)), by simp [lh], fun j h e => ?_⟩
        by_cases c : j < hs.length
        · rw [List.getElem?_append_left c] at e
          exact hsr j h e
        · have lu := (List.getElem?_eq_some_iff.mp e).1
          rw [List.length_append, List.length_singleton] at lu
          have ej : j = hs.length := by (clear hbits q b21 n0 n1 b3 n6 pt0 pt1 pt yb hm m16 lr lrx rat hPv hi hy h'2375 lh hsr e0 h'2378 et e1 q1 d0 d1 hDp e; omega)
          rw [List.getElem?_append_right (by (clear hbits q b21 n0 n1 b3 n6 pt0 pt1 pt yb hm m16 lr lrx rat hPv hi hy h'2375 lh hsr e0 h'2378 et e1 q1 d0 d1 hDp e ej lu; omega)), ej, Nat.sub_self] at e
          cases e
          exact ⟨t, by rw [ej, lh]; exact et, rfl⟩)
    rw [hPv] at h
    refine L2.put_away fun G'2401 h'2401 => ?_
    obtain ⟨nHD, g5, hs, hH, lh, hsr⟩ := h
    refine h'2401 ?_
    exact ⟨HD, hx, hs, rfl, g5, hHD, hH.same era_le, lh, hsr⟩
  rintro σ H5 ⟨HD, hx, hs, rfl, g5, hHD, hH, lh, hsr⟩
  walk_at "wp"
  intro PL nPL WL nWL
  have nW5 : H5 WL = none := (same_new nPL (.lst [])).free nWL
  have nPW : PL ≠ WL := fun e => by rw [← e, upd_same] at nWL; cases nWL
  have g6 := (same_new nPL (.lst [])).trans (same_new nWL (.lst []))
  have hPL6 := (same_new nWL (.lst [])) _ _ (upd_same (H := H5) (a := PL) (o := .lst []))
  have hWL6 := upd_same (H := upd H5 PL (.lst [])) (a := WL) (o := .lst [])
  generalize upd (upd H5 PL (.lst [])) WL (.lst []) = H6 at g6 hPL6 hWL6 ⊢
  have hwk : ∀ h ∈ hs, h.1.length ≤ 7 ∧ ∀ u ∈ h.1, Wk u ∧ u.1 ≤ 10 ^ 60 := fun h mh => by
    obtain ⟨j, hj⟩ := List.getElem?_of_mem mh
    refine L2.put_away fun G'2414 h'2414 => ?_
    obtain ⟨t, et, ee⟩ := hsr j h hj
    refine h'2414 ?_
    have lj := (List.getElem?_eq_some_iff.mp et).1
    refine L2.put_away fun G'2416 h'2416 => ?_
    obtain ⟨t', r, L, xs, et', e1, q1, q2, q3, q4⟩ := rat j (by (clear hbits q b21 n0 n1 b3 n6 pt0 pt1 pt yb hm m16 rat hsr hj h'2414 et ee h'2416 lh lrx; omega))
    refine h'2416 ?_
    rw [et] at et'
    cases et'
    rw [ee]
    have := q4.len
    have := q4.few
    exact ⟨by (clear hbits q b21 n0 n1 b3 n6 pt0 pt1 pt hm m16 lr lrx rat lh hsr hj h'2414 et ee lj h'2416 e1 q1; omega), q4.wk⟩
  refine ⟨_, _, rfl, .inl (SqL.of (g6 _ _ (g5 _ _ hR))), _, _, rfl, ⟨by decide, by decide, by (clear hbits q b21 n0 n1 b3 n6 pt0 pt1 pt yb hm rat hsr hwk lh lrx lr m16; omega), by (clear hbits q b21 n0 n1 b3 n6 pt0 pt1 pt yb hm rat hsr hwk lh; omega)⟩, ?_⟩
  have en : ((rx.length : Int) - 1).toNat = m - 1 := by (clear hbits q b21 n0 n1 b3 n6 pt0 pt1 pt yb hm rat hsr hwk lh m16; omega)
  rw [en]
  obtain ⟨W, hW⟩ : ∃ W : Nat → St → Hp → Prop, W = fun i σ H' => ∃ (o4 o5 o6 o7 : Option V) (ys us : List V) (ps qs : List Pap) (Ms : List Int), σ = [some (.ref a), some (.int num), some (.int part), some (.int by_), o4, some (.ref R), some (.ref HD), some (.ref PL), some (.ref WL), some (.int Ms.sum), o5, o6, o7] ∧ Same H5 H' ∧ H' PL = some (.lst ys) ∧ PapsIn K (fun l => H5 l = none ∧ l ≠ PL ∧ l ≠ WL) H' ys ps ∧ ps.length = i ∧ H' WL = some (.lst us) ∧ PapsIn K (fun l => H5 l = none ∧ l ≠ PL ∧ l ≠ WL) H' us qs ∧ qs.length = i ∧ Waits hs ps Ms ∧ Trios hs ps qs := ⟨_, rfl⟩
  refine forW_range W ?_ (fun i σ H' hi z => ?_) (fun σ H' z => ?_)
  · rw [hW]
    exact ⟨none, none, none, none, [], [], [], [], [], rfl, g6, hPL6, .nil, rfl, hWL6, .nil, rfl, ⟨rfl, fun i h g p M _ _ e => by simp at e⟩, fun i h g p q _ _ e => by simp at e⟩
  · rw [hW] at z
    refine L2.put_away fun G'2431 h'2431 => ?_
    obtain ⟨o4, o5, o6, o7, ys, us, ps, qs, Ms, rfl, g, hPL, hps, lp, hWL, hqs, lq, hWs, hTr⟩ := z
    refine h'2431 ?_
    have lM := hWs.1
    have lys := hps.len
    have lus := hqs.len
    refine L2.put_away fun G'2435 h'2435 => ?_
    obtain ⟨t1, r1, L1, x1, et1, e1, q1, q2, q3, q4⟩ := rat i (by (clear hbits q b21 n0 n1 b3 n6 pt0 pt1 pt yb hm rat hsr hwk en hW h'2431 h'2435 lus lys lM lq lp lh lrx lr m16; omega))
    refine h'2435 ?_
    refine L2.put_away fun G'2436 h'2436 => ?_
    obtain ⟨t2, r2, LB, x2, et2, e2, s1, s2, s3, s4⟩ := rat (i + 1) (by (clear hbits q b21 n0 n1 b3 n6 pt0 pt1 pt yb hm rat hsr hwk en hW h'2431 h'2435 et1 e1 q1 h'2436 lus lys lM lq lp lh lrx lr m16; omega))
    refine h'2436 ?_
    have ek : 1 + (i : Int) - 1 = (i : Int) := by (clear hbits q b21 n0 n1 b3 n6 pt0 pt1 pt yb hm m16 lr lrx rat lh hsr hwk en hW hi h'2431 lp lq lM lys lus h'2435 et1 e1 q1 h'2436 et2 e2 s1; omega)
    have ek2 : 1 + (i : Int) = ((i + 1 : Nat) : Int) := by (clear hbits q b21 n0 n1 b3 n6 pt0 pt1 pt yb hm m16 lr lrx rat lh hsr hwk en hW hi h'2431 lp lq lM lys lus h'2435 et1 e1 q1 h'2436 et2 e2 s1 ek; omega)
    have G := g5.trans g
    walk_at "wp"
    rw [ek]
    refine ⟨a, ns, _, rfl, (g1.trans (g2.trans G)).seq hS, by (clear hbits q b21 n0 n1 b3 n6 pt0 pt1 pt yb hm m16 lr lrx rat lh hsr hwk en hW hi h'2431 h'2435 et1 e1 q1 h'2436 et2 e2 s1 ek ek2 lus lys lM lq lp; omega), rIxL_mk (SqL.of (G _ _ hR)) (atI_nat e1) (rIxL_mk (SqL.of (G _ _ hR)) (by rw [ek2]; exact atI_nat e2) ?_)⟩
    refine ⟨_, by_, _, _, r1, r2, t1.1, t2.1, t1.2.1, t1.2.2, t2.2.1, t2.2.2, rfl, b21 _, yb.1, yb.2, ?_, RowAt.same G ⟨L1, x1, q1, q2, q3, q4⟩, RowAt.same G ⟨LB, x2, s1, s2, s3, s4⟩, fun r H7 g7 nr TR => ?_⟩
    · rcases Nat.mod_two_eq_zero_or_one i with z | z
      · exact .inl (by rw [z]; rfl)
      · exact .inr (by rw [show (i + 1) % 2 = 0 by (clear hbits q b21 n0 n1 b3 n6 pt0 pt1 pt yb hm m16 lr lrx rat lh hsr hwk en hW hi h'2431 h'2435 et1 e1 q1 h'2436 et2 e2 s1 ek ek2 lus lys lM lq lp; omega)]; rfl)
    refine L2.put_away fun G'2447 h'2447 => ?_
    obtain ⟨v1, v2, p, q', wt, hr7, hv1, hv2, d1, d2, d3, d4, d5, d6, d7⟩ := TR
    refine h'2447 ?_
    refine ⟨r, _, rfl, SqL.of hr7, rfl, ?_⟩
    walk_at "wp"
    have hPL7 := g7 _ _ hPL
    have hWL7 := g7 _ _ hWL
    refine ⟨.inl ⟨rfl, _, SqL.of hPL7⟩, PL, ys, v1, rfl, rfl, hPL7, by rw [sizeLine_eq]; (clear hbits q b21 n0 n1 b3 n6 pt0 pt1 pt yb hm rat hsr hwk en hW h'2431 h'2435 et1 e1 q1 h'2436 et2 e2 s1 ek ek2 h'2447 d1 d2 d3 d4 d5 lus lM lq lh lrx lr; omega), ?_⟩
    have nP' : ∀ l, H' l = none → l ≠ PL := fun l hl e => by rw [e, hPL] at hl; cases hl
    have nW' : ∀ l, H' l = none → l ≠ WL := fun l hl e => by rw [e, hWL] at hl; cases hl
    have hps8 := ((hps.mono g7).snoc (hv1.imp fun l hl => ⟨g.free hl, nP' l hl, nW' l hl⟩)).write (o := .lst (ys ++ [v1])) hPL7 fun l hl => hl.2.1
    have hqs8 := ((hqs.mono g7).snoc (hv2.imp fun l hl => ⟨g.free hl, nP' l hl, nW' l hl⟩)).write (o := .lst (ys ++ [v1])) hPL7 fun l hl => hl.2.1
    have g8 : Same H5 (upd H7 PL (.lst (ys ++ [v1]))) := (g.trans g7).write nPL _
    have hPL8 := upd_same (H := H7) (a := PL) (o := .lst (ys ++ [v1]))
    have hWL8 : upd H7 PL (.lst (ys ++ [v1])) WL = some (.lst us) := by rw [upd_ne nPW.symm]; exact hWL7
    generalize upd H7 PL (.lst (ys ++ [v1])) = H8 at hps8 hqs8 g8 hPL8 hWL8 ⊢
    walk_at "wp"
    refine ⟨.inl ⟨rfl, _, SqL.of hWL8⟩, WL, us, v2, rfl, rfl, hWL8, by rw [sizeLine_eq]; (clear hbits q b21 n0 n1 b3 n6 pt0 pt1 pt yb hm rat hsr hwk en hW h'2431 h'2435 et1 e1 q1 h'2436 et2 e2 s1 ek ek2 h'2447 d1 d2 d3 d4 d5 lys lM lp lh lrx lr; omega), ?_⟩
    walk_at "wp"
    rw [show Ms.sum + wt = (Ms ++ [wt]).sum by simp, hW]
    have atH : ∀ {j : Nat} {h : Hd} {t : List T3 × Nat × Nat}, hs[j]? = some h → rs[j]? = some t → h.1 = t.1 := fun {j h t} eh et => by
      refine L2.put_away fun G'2466 h'2466 => ?_
      obtain ⟨t', et', ee⟩ := hsr j h eh
      refine h'2466 ?_
      rw [et] at et'
      cases et'
      exact ee
    have last : ∀ {α : Type} {xs : List α} {x y : α} {j : Nat}, ¬ j < xs.length → (xs ++ [x])[j]? = some y → j = xs.length ∧ y = x := fun {α xs x y j} c e => by
      have lu := (List.getElem?_eq_some_iff.mp e).1
      rw [List.length_append, List.length_singleton] at lu
      have ej : j = xs.length := by (clear hbits q b21 n0 n1 b3 n6 pt0 pt1 pt yb hm m16 lr lrx rat lh hsr hwk en hW hi h'2431 lp lq lM lys lus h'2435 et1 e1 q1 h'2436 et2 e2 s1 ek ek2 h'2447 d1 d2 d3 d4 d5 atH e; omega)
      rw [List.getElem?_append_right (by (clear hbits q b21 n0 n1 b3 n6 pt0 pt1 pt yb hm m16 lr lrx rat lh hsr hwk en hW hi h'2431 lp lq lM lys lus h'2435 et1 e1 q1 h'2436 et2 e2 s1 ek ek2 h'2447 d1 d2 d3 d4 d5 atH e ej lu; omega)), ej, Nat.sub_self] at e
      cases e
      exact ⟨ej, rfl⟩
    refine ⟨_, _, _, _, ys ++ [v1], us ++ [v2], ps ++ [p], qs ++ [q'], Ms ++ [wt], rfl, g8.write nW5 _, by rw [upd_ne nPW]; exact hPL8, hps8.write hWL8 fun l hl => hl.2.2, by simp [lp], upd_same, hqs8.write hWL8 fun l hl => hl.2.2, by simp [lq], ⟨by simp [lM], fun j h g p2 M2 eh eg ep eM => ?_⟩, fun j h g p2 q2' eh eg ep eq => ?_⟩
    · by_cases c : j < ps.length
      · rw [List.getElem?_append_left c] at ep
        rw [List.getElem?_append_left (by (clear hbits q b21 n0 n1 b3 n6 pt0 pt1 pt yb hm m16 lr lrx rat lh hsr hwk en hW hi h'2431 h'2435 et1 e1 q1 h'2436 et2 e2 s1 ek ek2 h'2447 d1 d2 d3 d4 d5 atH last eh eg ep eM lus lys lq lp; omega))] at eM
        exact hWs.2 j h g p2 M2 eh eg ep eM
      · obtain ⟨ej, rfl⟩ := last c ep
        obtain ⟨_, rfl⟩ := last (by (clear hbits q b21 n0 n1 b3 n6 pt0 pt1 pt yb hm m16 lr lrx rat lh hsr hwk en hW hi h'2431 h'2435 et1 e1 q1 h'2436 et2 e2 s1 ek ek2 h'2447 d3 d4 atH last eh eg eM c d1 d2 d5 ep lus lys lq lp; omega)) eM
        rw [ej, lp] at eh eg
        rw [atH eh et1, atH eg et2]
        exact d6
    · by_cases c : j < ps.length
      · rw [List.getElem?_append_left c] at ep
        rw [List.getElem?_append_left (by (clear hbits q b21 n0 n1 b3 n6 pt0 pt1 pt yb hm m16 lr lrx rat lh hsr hwk en hW hi h'2431 h'2435 et1 e1 q1 h'2436 et2 e2 s1 ek ek2 h'2447 d1 d2 d3 d4 d5 atH last eh eg ep eq lus lys lM; omega))] at eq
        exact hTr j h g p2 q2' eh eg ep eq
      · obtain ⟨ej, rfl⟩ := last c ep
        obtain ⟨_, rfl⟩ := last (by (clear hbits q b21 n0 n1 b3 n6 pt0 pt1 pt yb hm m16 lr lrx rat lh hsr hwk en hW hi h'2431 h'2435 et1 e1 q1 h'2436 et2 e2 s1 ek ek2 h'2447 d3 d4 atH last eh eg eq c d1 d2 d5 ep lus lys lM; omega)) eq
        rw [ej, lp] at eh eg
        rw [atH eh et1, atH eg et2]
        exact ⟨d1, d2, d3, d4, d5, d7⟩
  rw [hW] at z
  refine L2.put_away fun G'2497 h'2497 => ?_
  obtain ⟨o4, o5, o6, o7, ys, us, ps, qs, Ms, rfl, g, hPL, hps, lp, hWL, hqs, lq, hWs, hTr⟩ := z
  refine h'2497 ?_
  walk_at "wp"
  intro r nr
  have gr := same_new nr (.lst [.ref HD, .ref PL, .int Ms.sum, .ref WL])
  have G := g.trans gr
  exact q r HD PL WL _ ys us hs ps qs Ms _ (g1.trans (g2.trans (g5.trans G))) upd_same (G _ _ hHD) (hH.same G) (gr _ _ hPL) ((hps.imp fun _ _ => trivial).mono gr) (gr _ _ hWL) ((hqs.imp fun _ _ => trivial).mono gr) (by (clear hbits q b21 n0 n1 b3 n6 pt0 pt1 pt yb hm rat hsr hwk en hW h'2497 lq lrx lr; omega)) (by (clear hbits q b21 n0 n1 b3 n6 pt0 pt1 pt yb hm m16 lr lrx rat lh hsr hwk en hW h'2497; omega)) (by (clear hbits q b21 n0 n1 b3 n6 pt0 pt1 pt yb hm rat hsr hwk en hW h'2497 lp lq lrx lr; omega)) hwk hWs hTr
theorem eqv_nilP (ps : List Pap) : PyData.eqv (.list (Pap.pds ps)) (.list []) = decide (ps = []) := by
  cases ps <;> simp [Pap.pds, PyData.eqv, PyData.eqvAll]
theorem shapedPs {ps : List Pap} (h : Pap.deps ps ≤ 5) : SeqAt.shaped (.list (Pap.pds ps)) = true := by
  have := Pap.pds_lay ps
  unfold SeqAt.shaped
  simp only [PyData.canLay0, PyData.depth, this.1, Bool.true_and]
  exact decide_eq_true (by omega)
theorem shaped_nil : SeqAt.shaped (.list []) = true := by
  unfold SeqAt.shaped
  simp [PyData.canLay0, PyData.canLayAll0, PyData.depth, PyData.depthAll]
theorem nePsNil {K : PySem.W.Frag} {N : Addr → Prop} {H : Hp} {Q : VK} {a b : Addr} {xs : List V} {ps : List Pap} (ha : H a = some (.lst xs)) (hp : PapsIn K N H xs ps) (hd : Pap.deps ps ≤ 5) (hb : H b = some (.lst [])) (q : Q (.bl (!decide (ps = []))) H) : rNeD K (.ref a) (.ref b) H Q :=
  ⟨_, _, .lst (SqL.of ha) hp.dds, .lst (SqL.of hb) .nil, shapedPs hd, shaped_nil, by rw [eqv_nilP]; exact q⟩
theorem eqv_ps (ps : List Pap) : PyData.eqv (.list (Pap.pds ps)) (.list (Pap.pds ps)) = true := by
  simp [PyData.eqv, Pap.pds_eqv]
theorem eqv_two (hs : List Hd) (ps : List Pap) : PyData.eqv (.list [dHs hs, .list (Pap.pds ps)]) (.list [dHs hs, .list (Pap.pds ps)]) = true := by
  simp [PyData.eqv, PyData.eqvAll, Pap.pds_eqv, eqv_dHs]
theorem shaped_two {hs : List Hd} {ps : List Pap} (h : Pap.deps ps ≤ 5) : SeqAt.shaped (.list [dHs hs, .list (Pap.pds ps)]) = true := by
  have := Pap.pds_lay ps
  have l := lay_dH hs
  unfold SeqAt.shaped dHs
  simp only [PyData.canLay0, PyData.canLayAll0, PyData.depth, PyData.depthAll, this.1, l.1, Bool.true_and]
  exact decide_eq_true (by omega)
mutual
theorem PapIn.off {K : PySem.W.Frag} {N : Addr → Prop} {H : Hp} {S : Addr} (n : H S = none) : ∀ {v : V} {p : Pap}, PapIn K N H v p → PapIn K (fun l => l ≠ S) H v p
  | _, _, .inn h => .inn h
  | _, _, .par h hl _ hz hs => .par h hl (ne_of_none hl n) hz (PapsIn.off n hs)
theorem PapsIn.off {K : PySem.W.Frag} {N : Addr → Prop} {H : Hp} {S : Addr} (n : H S = none) : ∀ {xs : List V} {ps : List Pap}, PapsIn K N H xs ps → PapsIn K (fun l => l ≠ S) H xs ps
  | _, _, .nil => .nil
  | _, _, .cons h hs => .cons (PapIn.off n h) (PapsIn.off n hs)
end
theorem PapsIn.eraseP {K : PySem.W.Frag} {N : Addr → Prop} {H : Hp} : ∀ {xs : List V} {ps : List Pap} (i : Nat), PapsIn K N H xs ps → PapsIn K N H (xs.eraseIdx i) (ps.eraseIdx i)
  | _, _, _, .nil => .nil
  | _, _, 0, .cons _ hs => hs
  | _, _, i + 1, .cons h hs => .cons h (PapsIn.eraseP i hs)
noncomputable def sp_law (K : PySem.W.Frag) : Sp := fun vs H Q _ => ∃ (a : Addr) (ns : List Int), vs = [.ref a] ∧ SqL K H a (ns.map V.int) ∧ ns.length ≤ 63 ∧ (∀ z ∈ ns, Builtin.Int.intBits z ≤ 2 ^ 20) ∧ ∀ H', Q (.bl true) H'
theorem sp_start (K : PySem.W.Frag) (H : Hp) (a : Addr) (ns : List Int) (h1 : ns.length ≤ 63) (hb : ∀ z ∈ ns, Builtin.Int.intBits z ≤ 2 ^ 20) (h2 : SqL K H a (ns.map V.int)) : sp_law K [.ref a] H (fun v _ => v = .bl true) fun _ _ _ => False := ⟨a, ns, rfl, h2, h1, hb, fun _ => rfl⟩

theorem h_law (T : TF K mg "law" s_law) (m_len : mg "len" = none) (m_list : mg "list" = none) (G_law_cell_at : Has P w K mg base 1 "_law_cell_at" ["script", "k"] (sp_cell_at K)) (G_law_whole : Has P w K mg base 1 "_law_whole" ["found"] sp_whole) (G_law_made : Has P w K mg base 5 "_law_made" ["script"] (sp_made K)) (G_law_bad : Has P w K mg base 2 "_law_bad" ["cell", "paper", "many", "wrong"] (sp_bad K)) (G_law_refused : Has P w K mg base 11 "_law_refused" ["hands", "papers"] (sp_refused63 K)) (G_waits_of : Has P w K mg base 9 "waits_of" ["hands", "papers"] (sp_waits K 2)) :
    Has P w K mg base 12 "law" ["script"] (sp_law K) := by
  refine T.has sc_law (fun _ _ _ _ _ _ => L2.bnd1 fun _ => rfl) (fun vs H Q E h => ?_) (fun f cdv A outer s H vs Q E hr h => ?_)
  · refine L2.put_away fun G'2543 h'2543 => ?_
    obtain ⟨a, ns, rfl, _⟩ := h
    refine h'2543 ?_
    rfl
  refine L2.put_away fun G'2545 h'2545 => ?_
  obtain ⟨a, ns, rfl, hS, h63, hbits, q⟩ := h
  refine h'2545 ?_
  refine ⟨_, (pss_cons (ps_asg (pe_def (G_law_made.mono (by first | decide | omega)) hr (pa_cons (pv 0) pa_nil)) (pg_lst rfl (pgs_cons (pg_name (i := 1) sc_law.nd rfl (Or.inl rfl)) (pgs_cons (pg_name (i := 2) sc_law.nd rfl (Or.inl rfl)) (pgs_cons (pg_name (i := 3) sc_law.nd rfl (Or.inl rfl)) (pgs_cons (pg_name (i := 4) sc_law.nd rfl (Or.inl rfl)) pgs_nil)))))) (pss_cons (ps_set (i := 5) sc_law.nd rfl (Or.inl rfl) (pe_def (G_law_cell_at.mono (by first | decide | omega)) hr (pa_cons (pv 0) (pa_cons pe_int pa_nil)))) (pss_cons (ps_set (i := 6) sc_law.nd rfl (Or.inl rfl) (pe_callTy call_list_of rfl m_list (by decide +kernel) (pa_cons (pv 2) pa_nil))) (pss_cons (ps_cut (ps_if (pt_cmpR op_eq (pe_op op_mod (pv 5) pe_int) pe_int (nomark _)) (pss_one (ps_expr (pe_bm PySem.F.plainAttrs_list PySem.F.slot_list_append PySem.F.type_list_append mt_append (pv 6) (pa_cons (pe_tup (pa_cons pe_str (pa_cons pe_int pa_nil))) pa_nil)))) pss_nil)) (pss_cons (ps_cut (ps_if (PW.pt (pw_and (pt_cmpR op_eq (pe_op op_mod (pv 5) pe_int) pe_int (nomark _)) (pw_and1 (pt_cmpR (op_neD hr.units) (pv 2) (pe_lst pa_nil) (nomark _))))) (pss_one (ps_expr (pe_bm PySem.F.plainAttrs_list PySem.F.slot_list_pop PySem.F.type_list_pop mt_popAt (pv 6) (pa_cons (pe_op op_mod (pe_op op_fdivA (pv 5) pe_int) (pe_callB call_len_seq rfl m_len PySem.boot_len (pa_cons (pv 2) pa_nil))) pa_nil)))) pss_nil)) (pss_cons (ps_cut (ps_if (PW.pt (pw_and (pt_cmpR op_gt (pe_op op_mod (pv 5) pe_int) pe_int (nomark _)) (pw_and (pt_cmpR op_lt (pe_op op_mod (pv 5) pe_int) pe_int (nomark _)) (pw_and1 (pt_cmpR (op_neD hr.units) (pv 2) (pe_lst pa_nil) (nomark _)))))) (pss_cons (ps_set (i := 7) sc_law.nd rfl (Or.inl rfl) (pe_op op_mod (pe_op op_fdivA (pv 5) pe_int) (pe_callB call_len_seq rfl m_len PySem.boot_len (pa_cons (pv 2) pa_nil)))) (pss_cons (ps_set (i := 8) sc_law.nd rfl (Or.inl rfl) (pe_op op_mulA (pe_callB call_len_seq rfl m_len PySem.boot_len (pa_cons (pe_ix ix_tup (pe_ix ix_list (pv 1) (pv 7) (fun _ _ => rfl)) pe_int (fun _ _ => rfl)) pa_nil)) (pe_callB call_len_seq rfl m_len PySem.boot_len (pa_cons (pe_ix ix_tup (pe_ix ix_list (pv 1) (pe_op op_add (pv 7) pe_int) (fun _ _ => rfl)) pe_int (fun _ _ => rfl)) pa_nil)))) (pss_one (ps_asg (pe_def (G_law_bad.mono (by first | decide | omega)) hr (pa_cons (pe_op op_fdivA (pv 5) pe_int) (pa_cons (pe_ix ix_list (pv 2) (pv 7) (fun _ _ => rfl)) (pa_cons (pv 8) (pa_cons (pe_ix ix_list (pv 4) (pv 7) (fun _ _ => rfl)) pa_nil))))) (pg_sub (pv 6) (pv 7) set_list))))) pss_nil)) (pss_cons (ps_cut (ps_if (PW.pt (pw_and (pt_cmpR (op_neD hr.units) (pv 6) (pv 2) (nomark _)) (pw_and1 (pt_not (pt_val (pe_def (G_law_refused.mono (by first | decide | omega)) hr (pa_cons (pe_callTy call_list_of rfl m_list (by decide +kernel) (pa_cons (pv 1) pa_nil)) (pa_cons (pe_callTy call_list_of rfl m_list (by decide +kernel) (pa_cons (pv 6) pa_nil)) pa_nil))) (fun _ => rfl)))))) (pss_one (ps_ret pe_bl)) pss_nil)) (pss_cons (ps_set (i := 9) sc_law.nd rfl (Or.inl rfl) (pe_lst (pa_cons (pe_callTy call_list_of rfl m_list (by decide +kernel) (pa_cons (pv 1) pa_nil)) (pa_cons (pe_callTy call_list_of rfl m_list (by decide +kernel) (pa_cons (pv 2) pa_nil)) pa_nil)))) (pss_cons (ps_set (i := 10) sc_law.nd rfl (Or.inl rfl) (pe_def (G_waits_of.mono (by first | decide | omega)) hr (pa_cons (pe_ix ix_list (pv 9) pe_int (fun _ _ => rfl)) (pa_cons (pe_ix ix_list (pv 9) pe_int (fun _ _ => rfl)) pa_nil)))) (pss_one (ps_ret (pe_and (pe_cmpR (op_eqD hr.units) (pv 9) (pe_lst (pa_cons (pv 1) (pa_cons (pv 2) pa_nil))) (nomark _)) (pe_and (pe_def (G_law_whole.mono (by first | decide | omega)) hr (pa_cons (pv 10) pa_nil)) (pe_one (pe_cmpR op_eq (pv 10) (pv 3) (nomark _)))))))))))))))), ?_⟩
  have b20 : ∀ j : Nat, Builtin.Int.intBits (ns.getD j 0) ≤ 2 ^ 20 := fun j => bitsGetD hbits
  walk_at "wp"
  refine ⟨a, ns, rfl, hS, hbits, fun r HA PB WC xs ys us hs ps qs Ms H1 g1 hr1 hA hH hB hP hC hQ el eq2 h6 hwk hWs hTr => ?_⟩
  refine ⟨r, _, rfl, SqL.of hr1, rfl, ?_⟩
  walk_at "wp"
  refine ⟨a, ns, 2, rfl, g1.seq hS, by decide, _, _, rfl, .inl (SqL.of hB), fun S nS => ?_⟩
  have cb := b20 (Int.toNat 2)
  generalize ns.getD (Int.toNat 2) 0 = cell at cb ⊢
  have g2 := same_new nS (.lst ys)
  have hS2 := upd_same (H := H1) (a := S) (o := .lst ys)
  generalize upd H1 S (.lst ys) = H2 at g2 hS2 ⊢
  have lys := hP.len
  have lus := hQ.len
  obtain ⟨Bad, hBad⟩ : ∃ Bad : List V → Hp → Prop, Bad = fun zs H' => ∃ ps' : List Pap, PapsIn K anyL H' zs ps' ∧ (∀ p ∈ ps', p.dep < 3 ∧ p.kn < 64) ∧ (hs.length = ps'.length + 1 → ∃ (i : Nat) (h g : Hd) (p : Pap), hs[i]? = some h ∧ hs[i + 1]? = some g ∧ ps'[i]? = some p ∧ rightB (shs h.1 g.1) 1 0 p = false) := ⟨_, rfl⟩
  have kps : ∀ p ∈ ps, p.dep < 3 ∧ p.kn < 64 := fun p hp => by
    obtain ⟨i, hi⟩ := List.getElem?_of_mem hp
    have li := (List.getElem?_eq_some_iff.mp hi).1
    have t := hTr i _ _ p _ (List.getElem?_eq_getElem (show i < hs.length by (clear h63 hbits b20 hr1 h6 hwk cb hBad hi lus lys eq2; omega))) (List.getElem?_eq_getElem (show i + 1 < hs.length by (clear h63 hbits b20 hr1 h6 hwk cb hBad hi lus lys eq2; omega))) hi (List.getElem?_eq_getElem (show i < qs.length by (clear h63 hbits b20 hr1 el h6 hwk cb hBad hi lus lys; omega)))
    exact ⟨by (clear h63 hbits b20 hr1 h6 hwk cb hBad hi; omega), by (clear h63 hbits b20 hr1 h6 hwk cb hBad hi; omega)⟩
  have hw50 : ∀ h ∈ hs, h.1.length ≤ 50 ∧ ∀ u ∈ h.1, Wk u ∧ u.1 ≤ 2 ^ 1000 := fun h mh => ⟨Nat.le_trans (hwk h mh).1 (by decide), fun u hu => ⟨((hwk h mh).2 u hu).1, Int.le_trans ((hwk h mh).2 u hu).2 (by decide)⟩⟩
  have dps : Pap.deps ps ≤ 5 := Pap.deps_le fun p hp => by have := (kps p hp).1; (clear h63 hbits b20 hr1 el eq2 h6 hwk cb lys lus hBad kps hw50; omega)
  obtain ⟨M, hM⟩ : ∃ M : Prop → St → Hp → Prop, M = fun C σ H' => ∃ (o1 o2 : Option V) (zs : List V), σ = [some (.ref a), some (.ref HA), some (.ref PB), some (.int Ms.sum), some (.ref WC), some (.int cell), some (.ref S), o1, o2, none, none] ∧ Same H1 H' ∧ H' S = some (.lst zs) ∧ (C → zs = ys) ∧ (zs = ys ∨ Bad zs H') := ⟨_, rfl⟩
  refine ⟨M (cell % 9 ≠ 1), ?_, fun σ H' h => ?_⟩
  · walk_at "wp"
    refine ⟨by decide, fun e => ⟨.inl ⟨rfl, _, SqL.of hS2⟩, fun t nt => ?_⟩, fun e => ?_⟩
    · have gt := same_new nt (.tup [V.str "in", .int 0])
      have hSt := gt _ _ hS2
      refine ⟨S, ys, _, rfl, rfl, hSt, by rw [sizeLine_eq]; (clear h63 hbits b20 hr1 hwk cb hBad kps hw50 dps hM e hSt lus eq2; omega), ?_⟩
      rw [hM]
      refine ⟨none, none, _, rfl, (g2.trans gt).write nS _, upd_same, fun z => absurd e z, .inr ?_⟩
      rw [hBad]
      refine ⟨ps ++ [.inn 0], (hP.mono ((g2.trans gt).write nS _)).snoc (.inn (upd_tup hSt upd_same)), fun p hp => ?_, fun z => ?_⟩
      · rcases List.mem_append.mp hp with z | z
        · exact kps p z
        · rw [List.mem_singleton.mp z]
          exact ⟨by simp [Pap.dep], by simp [Pap.kn]⟩
      · rw [List.length_append, List.length_singleton] at z
        (clear h63 hbits b20 hr1 eq2 h6 hwk cb lys lus hBad kps hw50 dps hM e hSt; omega)
    · rw [hM]
      exact ⟨none, none, ys, rfl, g2, hS2, fun _ => rfl, .inl rfl⟩
  rw [hM] at h
  refine L2.put_away fun G'2588 h'2588 => ?_
  obtain ⟨o1, o2, zs, rfl, g3, hS3, c3, b3⟩ := h
  refine h'2588 ?_
  walk_at "wp"
  refine ⟨M (cell % 9 ≠ 1 ∧ cell % 9 ≠ 2), ?_, fun σ H' h => ?_⟩
  · walk_at "wp"
    refine ⟨by decide, fun e t nt => ?_, fun e => ?_⟩
    · have ez := c3 (by (clear h63 hbits b20 hr1 el eq2 h6 hwk cb lys lus hBad kps hw50 dps hM h'2588 c3; omega))
      subst ez
      have gt := same_new nt (.lst [])
      have G := g3.trans gt
      have hSt := gt _ _ hS3
      refine nePsNil (G _ _ hB) (hP.mono G) dps upd_same ⟨_, rfl, fun z => ?_, fun z => ?_⟩
      · have pos : 0 < zs.length := by
          rcases Nat.eq_zero_or_pos ps.length with e0 | e0
          · rw [List.eq_nil_of_length_eq_zero e0] at z
            simp at z
          · (clear h63 hbits b20 hr1 hwk cb hBad kps hw50 dps h'2588 e hM c3 lus h6 eq2 el; omega)
        have ib := modB (cell / 9) (show (0 : Int) < (zs.length : Int) by (clear h63 hbits b20 hr1 hwk cb hBad kps hw50 dps h'2588 e hM c3 lys lus h6 eq2 el; omega))
        refine ⟨.inl ⟨rfl, _, SqL.of hSt⟩, divA 10 (by decide) (by decide) (by decide), PB, _, rfl, .inl (SqL.of (G _ _ hB)), by (clear h63 hbits b20 hr1 hwk cb hBad kps hw50 dps h'2588 e hM c3 ib lys lus h6 eq2 el; omega), ?_⟩
        generalize cell / 9 % (zs.length : Int) = ix at ib ⊢
        have hix : ix.toNat < zs.length := by (clear h63 hbits b20 hr1 el eq2 h6 hwk cb lus hBad kps hw50 dps h'2588 e lys hM c3 pos; omega)
        refine ⟨S, zs, ix, ix.toNat, _, rfl, rfl, hSt, by (clear h63 hbits b20 hr1 el eq2 h6 hwk cb lus hBad kps hw50 dps h'2588 e lys hM c3 pos hix; omega), by (clear h63 hbits b20 hr1 hwk cb hBad kps hw50 dps h'2588 e hM c3 hix pos lus eq2; omega), (ixN_seq (ixN_in ib.1 ib.2)).1, List.getElem?_eq_getElem hix, ?_⟩
        rw [hM]
        refine ⟨_, _, _, rfl, G.write nS _, upd_same, fun z => absurd e z.2, .inr ?_⟩
        rw [hBad]
        refine ⟨ps.eraseIdx ix.toNat, PapsIn.eraseP _ (hP.mono (G.write nS _)), fun p hp => kps p (List.mem_of_mem_eraseIdx hp), fun z => ?_⟩
        rw [List.length_eraseIdx, if_pos (by (clear h63 hbits b20 hr1 h6 hwk cb hBad kps hw50 dps h'2588 e hM c3 pos ib z lus eq2 el; omega))] at z
        (clear h63 hbits b20 hr1 hwk cb hBad kps hw50 dps h'2588 e hM c3 ib hix lus h6 eq2; omega)
      · rw [hM]
        refine ⟨_, _, zs, rfl, G, hSt, fun _ => rfl, .inl rfl⟩
    · rw [hM]
      exact ⟨_, _, zs, rfl, g3, hS3, fun z => c3 z.1, b3⟩
  rw [hM] at h
  refine L2.put_away fun G'2620 h'2620 => ?_
  obtain ⟨o1, o2, zs, rfl, g3, hS3, c3, b3⟩ := h
  refine h'2620 ?_
  walk_at "wp"
  refine ⟨M (cell % 9 ≠ 1 ∧ cell % 9 ≠ 2 ∧ ¬ (2 < cell % 9 ∧ cell % 9 < 6)), ?_, fun σ H' h => ?_⟩
  · walk_at "wp"
    refine ⟨by decide, fun e => ⟨by decide, fun e2 t nt => ?_, fun e2 => ?_⟩, fun e => ?_⟩
    · have ez := c3 ⟨by (clear h63 hbits b20 hr1 el eq2 h6 hwk cb lys lus hBad kps hw50 dps hM h'2588 h'2620 c3 e2; omega), by (clear h63 hbits b20 hr1 el eq2 h6 hwk cb lys lus hBad kps hw50 dps hM h'2588 h'2620 c3 e2; omega)⟩
      subst ez
      have gt := same_new nt (.lst [])
      have G := g3.trans gt
      have hSt := gt _ _ hS3
      refine nePsNil (G _ _ hB) (hP.mono G) dps upd_same ⟨_, rfl, fun z => ?_, fun z => ?_⟩
      · have pos : 0 < zs.length := by
          rcases Nat.eq_zero_or_pos ps.length with e0 | e0
          · rw [List.eq_nil_of_length_eq_zero e0] at z
            simp at z
          · (clear h63 hbits b20 hr1 hwk cb hBad kps hw50 dps h'2588 h'2620 e e2 hM c3 lus h6 eq2 el; omega)
        generalize upd H' t (.lst []) = H3 at gt G hSt ⊢
        have ib := modB (cell / 9) (show (0 : Int) < (zs.length : Int) by (clear h63 hbits b20 hr1 hwk cb hBad kps hw50 dps h'2588 h'2620 e e2 hM c3 lys lus h6 eq2 el; omega))
        refine ⟨divA 10 (by decide) (by decide) (by decide), PB, _, rfl, .inl (SqL.of (G _ _ hB)), by (clear h63 hbits b20 hr1 hwk cb hBad kps hw50 dps h'2588 h'2620 e e2 hM c3 ib lys lus h6 eq2 el; omega), ?_⟩
        generalize cell / 9 % (zs.length : Int) = ix at ib ⊢
        obtain ⟨i, rfl⟩ : ∃ i : Nat, ix = (i : Int) := ⟨ix.toNat, by (clear h63 hbits b20 hr1 el eq2 h6 hwk cb lus hBad kps hw50 dps h'2588 h'2620 e e2 lys hM c3 pos; omega)⟩
        refine L2.put_away fun G'2641 h'2641 => ?_
        obtain ⟨p1, L1, x1, h1, e1, f1, q1, q2, q3⟩ := hH.ix (i := (i : Int)) (by (clear h63 hbits b20 hr1 el eq2 h6 hwk cb lus hBad kps hw50 dps h'2588 h'2620 e e2 lys hM c3 pos h'2641 ib; omega)) (by (clear h63 hbits b20 hr1 h6 hwk cb hBad kps hw50 dps h'2588 h'2620 e e2 hM c3 pos h'2641 lus eq2; omega))
        refine h'2641 ?_
        refine L2.put_away fun G'2642 h'2642 => ?_
        obtain ⟨p2, L2', x2, h2, e3, f2, r1, r2, r3⟩ := hH.ix (i := (i : Int) + 1) (by (clear h63 hbits b20 hr1 el eq2 h6 hwk cb lus hBad kps hw50 dps h'2588 h'2620 e e2 lys hM c3 pos h'2641 e1 f1 q1 h'2642 ib; omega)) (by (clear h63 hbits b20 hr1 h6 hwk cb hBad kps hw50 dps h'2588 h'2620 e e2 hM c3 pos h'2641 e1 f1 q1 h'2642 lus eq2; omega))
        refine h'2642 ?_
        obtain ⟨v1, ev1⟩ : ∃ v1, zs[i]? = some v1 := ⟨_, List.getElem?_eq_getElem (by (clear h63 hbits b20 hr1 el eq2 h6 hwk cb lus hBad kps hw50 dps h'2588 h'2620 e e2 lys hM c3 pos h'2641 e1 f1 q1 h'2642 e3 f2 r1; omega))⟩
        obtain ⟨v2, ev2⟩ : ∃ v2, us[i]? = some v2 := ⟨_, List.getElem?_eq_getElem (by (clear h63 hbits b20 hr1 el h6 hwk cb hBad kps hw50 dps h'2588 h'2620 e e2 hM c3 pos h'2641 e1 f1 q1 h'2642 e3 f2 r1 ev1; omega))⟩
        refine L2.put_away fun G'2645 h'2645 => ?_
        obtain ⟨p, ep, hv1⟩ := (PapsIn.off nS hP).at ev1
        refine h'2645 ?_
        refine L2.put_away fun G'2646 h'2646 => ?_
        obtain ⟨qq, eqq, hv2⟩ := (PapsIn.off nS hQ).at ev2
        refine h'2646 ?_
        rw [Int.toNat_natCast] at f1
        rw [show ((i : Int) + 1).toNat = i + 1 by (clear h63 hbits b20 hr1 el eq2 h6 hwk cb lus hBad kps hw50 dps h'2588 h'2620 e e2 lys hM c3 pos h'2641 e1 f1 q1 h'2642 e3 f2 r1 ev1 ev2 h'2645 ep h'2646 eqq ib; omega)] at f2
        refine L2.put_away fun G'2649 h'2649 => ?_
        obtain ⟨d1, d2, d3, d4, d5, d6⟩ := hTr i h1 h2 p qq f1 f2 ep eqq
        refine h'2649 ?_
        have w1 := (hwk h1 (List.mem_of_getElem? f1)).1
        have w2 := (hwk h2 (List.mem_of_getElem? f2)).1
        have lx1 := q3.1
        have lx2 := r3.1
        have lz : (x1.length : Int) * (x2.length : Int) = ((shs h1.1 h2.1).length : Int) := by rw [shs_len, lx1, lx2, Int.natCast_mul]
        have lz2 : (shs h1.1 h2.1).length ≤ 1000 := by
          rw [shs_len]
          have := Nat.mul_le_mul w1 w2
          (clear h63 hbits b20 hr1 el eq2 h6 hwk cb lus hBad kps hw50 dps h'2588 h'2620 e e2 lys hM c3 pos ib h'2641 e1 f1 q1 h'2642 e3 f2 r1 ev1 ev2 h'2645 ep h'2646 eqq h'2649 d1 d2 d3 d4 d5 w1 w2 lx1 lx2 lz; omega)
        refine rIxL_mk (SqL.of (G _ _ hA)) e1 ⟨_, _, _, .ref L1, rfl, rfl, SqT.of (G _ _ q1), rfl, L1, x1, rfl, .inl (SqL.of (G _ _ q2)), rIxL_mk (SqL.of (G _ _ hA)) e3 ⟨_, _, _, .ref L2', rfl, rfl, SqT.of (G _ _ r1), rfl, L2', x2, rfl, .inl (SqL.of (G _ _ r2)), mokS (by (clear h63 hbits b20 hr1 el eq2 h6 hwk cb lus hBad kps hw50 dps h'2588 h'2620 e e2 lys hM c3 pos ib h'2641 e1 f1 q1 h'2642 e3 f2 r1 ev1 ev2 h'2645 ep h'2646 eqq h'2649 d1 d2 d3 d4 d5 w1 lx1 lz lz2 lx2 w2; omega)) (by (clear h63 hbits b20 hr1 el eq2 h6 hwk cb lus hBad kps hw50 dps h'2588 h'2620 e e2 lys hM c3 pos ib h'2641 e1 f1 q1 h'2642 e3 f2 r1 ev1 ev2 h'2645 ep h'2646 eqq h'2649 d1 d2 d3 d4 d5 w1 lx1 lz lz2; omega)), divA 10 (by decide) (by decide) (by decide), rIxL_mk (SqL.of (G _ _ hB)) (atI_nat ev1) (rIxL_mk (SqL.of (G _ _ hC)) (atI_nat ev2) ?_)⟩⟩
        rw [lz]
        refine ⟨fun l => l ≠ S, cell / 50, v1, v2, p, qq, shs h1.1 h2.1, rfl, Nat.le_trans (bitsDiv 50 cb) (by decide), lz2, fun l hl => (ne_of_none hSt hl).symm, hv1.mono G, hv2.mono G, d1, d2, d3, d4, d6, fun v u H4 g4 hu du ku ru => ?_⟩
        have hS4 := g4 _ _ hSt
        refine ⟨S, zs, (i : Int), i, rfl, rfl, hS4, by rw [ixN_in (by (clear h63 hbits b20 hr1 el eq2 h6 hwk cb lus hBad kps hw50 dps h'2588 h'2620 e e2 lys hM c3 pos h'2641 e1 f1 q1 h'2642 e3 f2 r1 ev1 ev2 h'2645 ep h'2646 eqq h'2649 d1 d2 d3 d4 d5 w1 w2 lx1 lx2 lz lz2 du ku ru ib; omega)) (by (clear h63 hbits b20 hr1 el eq2 h6 hwk cb lus hBad kps hw50 dps h'2588 h'2620 e e2 lys hM c3 pos h'2641 e1 f1 q1 h'2642 e3 f2 r1 ev1 ev2 h'2645 ep h'2646 eqq h'2649 d1 d2 d3 d4 d5 w1 w2 lx1 lx2 lz lz2 du ku ru; omega)), Int.toNat_natCast], ?_⟩
        rw [hM]
        have G4 := (G.trans g4).write nS (.lst (zs.set i v))
        refine ⟨_, _, _, rfl, G4, upd_same, fun z => absurd ⟨e, e2⟩ z.2.2, .inr ?_⟩
        rw [hBad]
        have li : i < ps.length := (List.getElem?_eq_some_iff.mp ep).1
        refine ⟨ps.set i u, PapsIn.setP (hu.write hS4 fun l hl => hl).any i (hP.mono G4), fun p2 hp2 => ?_, fun _ => ⟨i, h1, h2, u, f1, f2, by rw [List.getElem?_set_self li], ru⟩⟩
        rcases List.mem_or_eq_of_mem_set hp2 with z | z
        · exact kps p2 z
        · rw [z]
          exact ⟨by (clear h63 hbits b20 hr1 el eq2 h6 hwk cb lus hBad kps hw50 dps h'2588 h'2620 e e2 lys hM c3 pos ib h'2641 e1 f1 q1 h'2642 e3 f2 r1 ev1 ev2 h'2645 ep h'2646 eqq h'2649 d1 d2 d3 d4 d5 w1 w2 lx1 lx2 lz lz2 ku ru li; omega), by (clear h63 hbits b20 hr1 el eq2 h6 hwk cb lus hBad kps hw50 dps h'2588 h'2620 e e2 lys hM c3 pos ib h'2641 e1 f1 q1 h'2642 e3 f2 r1 ev1 ev2 h'2645 ep h'2646 eqq h'2649 d1 d2 d3 d4 d5 w1 w2 lx1 lx2 lz lz2 du ru li; omega)⟩
      · rw [hM]
        refine ⟨_, _, zs, rfl, G, hSt, fun _ => rfl, .inl rfl⟩
    · rw [hM]
      exact ⟨_, _, zs, rfl, g3, hS3, fun z => c3 ⟨z.1, z.2.1⟩, b3⟩
    · rw [hM]
      exact ⟨_, _, zs, rfl, g3, hS3, fun z => c3 ⟨z.1, z.2.1⟩, b3⟩
  rw [hM] at h
  refine L2.put_away fun G'2681 h'2681 => ?_
  obtain ⟨o1, o2, zs, rfl, g3, hS3, c3, b3⟩ := h
  refine h'2681 ?_
  walk_at "wp"
  refine ⟨fun σ H' => ∃ (o1 o2 : Option V), σ = [some (.ref a), some (.ref HA), some (.ref PB), some (.int Ms.sum), some (.ref WC), some (.int cell), some (.ref S), o1, o2, none, none] ∧ Same H1 H', ?_, fun σ H' h => ?_⟩
  · walk_at "wp"
    rcases b3 with rfl | hb
    · refine ⟨_, _, .lst (SqL.of hS3) (hP.mono g3).dds, .lst (SqL.of (g3 _ _ hB)) (hP.mono g3).dds, shapedPs dps, shapedPs dps, _, rfl, fun z => ?_, fun _ => ⟨_, _, rfl, g3⟩⟩
      rw [eqv_ps] at z
      cases z
    · rw [hBad] at hb
      refine L2.put_away fun G'2690 h'2690 => ?_
      obtain ⟨ps', hP', k', b'⟩ := hb
      refine h'2690 ?_
      have dps' : Pap.deps ps' ≤ 5 := Pap.deps_le fun p hp => by have := (k' p hp).1; (clear h63 hbits b20 hr1 el eq2 h6 hwk cb lys lus hBad kps hw50 dps hM h'2588 h'2620 h'2681 c3 h'2690 k' b'; omega)
      refine ⟨_, _, .lst (SqL.of hS3) hP'.dds, .lst (SqL.of (g3 _ _ hB)) (hP.mono g3).dds, shapedPs dps', shapedPs dps, _, rfl, fun _ => ?_, fun _ => ⟨_, _, rfl, g3⟩⟩
      refine ⟨HA, xs, rfl, .inl (SqL.of (g3 _ _ hA)), fun l nl => ?_⟩
      have gl := same_new nl (.lst xs)
      refine ⟨S, zs, rfl, .inl (SqL.of (gl _ _ hS3)), fun l1 nl1 => ?_⟩
      have gl1 := same_new nl1 (.lst zs)
      refine ⟨l, l1, xs, zs, hs, ps', rfl, gl1 _ _ upd_same, hH.same (g3.trans (gl.trans gl1)), upd_same, hP'.mono (gl.trans gl1), by (clear h63 hbits b20 hr1 hwk cb hBad kps hw50 dps hM h'2588 h'2620 h'2681 c3 h'2690 k' b' dps' lus lys eq2 el; omega), hw50, k', b', fun H5 g5 => ?_⟩
      exact ⟨true, rfl, (fun c => nomatch c), fun _ => ⟨_, _, rfl, g3.trans (gl.trans (gl1.trans g5))⟩⟩
  refine L2.put_away fun G'2699 h'2699 => ?_
  obtain ⟨o1, o2, rfl, g4⟩ := h
  refine h'2699 ?_
  walk_at "wp"
  refine ⟨HA, xs, rfl, .inl (SqL.of (g4 _ _ hA)), fun l nl => ?_⟩
  have gl := same_new nl (.lst xs)
  refine ⟨PB, ys, rfl, .inl (SqL.of (gl _ _ (g4 _ _ hB))), fun l1 nl1 p np => ?_⟩
  have gl1 := same_new nl1 (.lst ys)
  have gp := same_new np (.lst [V.ref l, V.ref l1])
  have hl := gp _ _ (gl1 _ _ (upd_same (H := H') (a := l) (o := .lst xs)))
  have hl1 := gp _ _ (upd_same (H := upd H' l (.lst xs)) (a := l1) (o := .lst ys))
  have hp := upd_same (H := upd (upd H' l (.lst xs)) l1 (.lst ys)) (a := p) (o := .lst [V.ref l, V.ref l1])
  have G := g4.trans (gl.trans (gl1.trans gp))
  generalize upd (upd (upd H' l (.lst xs)) l1 (.lst ys)) p (.lst [V.ref l, V.ref l1]) = H5 at hl hl1 hp G ⊢
  refine rIxL_mk (SqL.of hp) (v := .ref l) rfl (rIxL_mk (SqL.of hp) (v := .ref l1) rfl ?_)
  refine ⟨l, l1, xs, ys, hs, ps, rfl, hl, hH.same G, hl1, hP.mono G, el, by (clear h63 hbits b20 hr1 hwk cb hBad kps hw50 dps hM h'2588 h'2620 h'2681 c3 h'2699 lus lys eq2 el; omega), hw50, ?_, fun Ns H6 g6 hNs r nr => ?_⟩
  · intro i h g p eh eg ep
    have li := (List.getElem?_eq_some_iff.mp ep).1
    have t := hTr i h g p _ eh eg ep (List.getElem?_eq_getElem (show i < qs.length by (clear h63 hbits b20 hr1 el h6 hwk cb hBad kps hw50 dps hM h'2588 h'2620 h'2681 c3 h'2699 eh eg ep lus lys; omega)))
    exact ⟨t.2.2.2.2.1, by (clear h63 hbits b20 hr1 el h6 hwk cb hBad kps hw50 dps hM h'2588 h'2620 h'2681 c3 h'2699 eh eg ep; omega), by (clear h63 hbits b20 hr1 el h6 hwk cb hBad kps hw50 dps hM h'2588 h'2620 h'2681 c3 h'2699 eh eg ep; omega)⟩
  have eN := hNs.uniq el hWs
  subst eN
  have gr := same_new nr (.lst [V.ref HA, V.ref PB])
  have G6 := g6.trans gr
  have G7 := G.trans G6
  have D1 : DD K (upd H6 r (.lst [V.ref HA, V.ref PB])) (.ref p) (.list [dHs hs, .list (Pap.pds ps)]) := .lst (SqL.of (G6 _ _ hp)) (.cons (.lst (SqL.of (G6 _ _ hl)) (hH.same G7).dds) (.cons (.lst (SqL.of (G6 _ _ hl1)) (hP.mono G7).dds) .nil))
  have D2 : DD K (upd H6 r (.lst [V.ref HA, V.ref PB])) (.ref r) (.list [dHs hs, .list (Pap.pds ps)]) := .lst (SqL.of upd_same) (.cons (.lst (SqL.of (G7 _ _ hA)) (hH.same G7).dds) (.cons (.lst (SqL.of (G7 _ _ hB)) (hP.mono G7).dds) .nil))
  refine ⟨_, _, D1, D2, shaped_two dps, shaped_two dps, ?_⟩
  rw [eqv_two]
  refine ⟨true, rfl, fun _ => .inl ⟨_, rfl, true, rfl, fun _ => ?_, fun z => (z rfl).elim⟩, fun z => (z rfl).elim⟩
  walk_at "wp"
  first
    | exact q _
    | (rw [decide_eq_true rfl]; exact q _)
    | (simp; exact q _)

theorem fin {fa : Addr} {h : Heap} (KX : K.In h) (G : h.Ns mainGlobals mg) (hfa : mg "law" = some (.ref fa)) (T_divisor : TF K mg "divisor" s_divisor) (T_least_round : TF K mg "least_round" s_least_round) (T_lies_in : TF K mg "lies_in" s_lies_in) (T_right_for : TF K mg "right_for" s_right_for) (T_part_of_part : TF K mg "part_of_part" s_part_of_part) (T_lets_by : TF K mg "lets_by" s_lets_by) (T_lets_meet : TF K mg "lets_meet" s_lets_meet) (T_shifts_of_two : TF K mg "shifts_of_two" s_shifts_of_two) (T_shifts : TF K mg "shifts" s_shifts) (T_pair_of : TF K mg "pair_of" s_pair_of) (T_pair_round : TF K mg "pair_round" s_pair_round) (T_paper_names : TF K mg "paper_names" s_paper_names) (T_paper_wait : TF K mg "paper_wait" s_paper_wait) (T_waits_of : TF K mg "waits_of" s_waits_of) (T_law_cell_at : TF K mg "_law_cell_at" s_law_cell_at) (T_law_whole : TF K mg "_law_whole" s_law_whole) (T_law_big : TF K mg "_law_big" s_law_big) (T_law_divisor : TF K mg "_law_divisor" s_law_divisor) (T_law_plan : TF K mg "_law_plan" s_law_plan) (T_law_meet : TF K mg "_law_meet" s_law_meet) (T_law_round : TF K mg "_law_round" s_law_round) (T_law_by_parts : TF K mg "_law_by_parts" s_law_by_parts) (T_law_paper : TF K mg "_law_paper" s_law_paper) (T_law_bad : TF K mg "_law_bad" s_law_bad) (T_law_refused : TF K mg "_law_refused" s_law_refused) (T_law_made : TF K mg "_law_made" s_law_made) (T_law : TF K mg "law" s_law) (m_len : mg "len" = none) (m_min : mg "min" = none) (m_max : mg "max" = none) (m_isinstance : mg "isinstance" = none) (m_int : mg "int" = none) (m_bool : mg "bool" = none) (m_list : mg "list" = none) (m_range : mg "range" = none) (m_enumerate : mg "enumerate" = none) (m_set : mg "set" = none) (m_sorted : mg "sorted" = none) (m_sum : mg "sum" = none) (m_zip : mg "zip" = none) (m_ValueError : mg "ValueError" = none) (C_ALL_TURNS : CT K mg "ALL_TURNS" [1,0]) {c_MeetError c_NoPlan c_NoPaper c_NoPrimes c_TooMany c_NoText c_NoName c_NoRow : Addr} (O_MeetError : OX K mg "MeetError" c_MeetError VE) (O_NoPlan : OX K mg "NoPlan" c_NoPlan (.ref c_MeetError :: VE)) (O_NoPaper : OX K mg "NoPaper" c_NoPaper (.ref c_MeetError :: VE)) (O_NoPrimes : OX K mg "NoPrimes" c_NoPrimes (.ref c_MeetError :: VE)) (O_TooMany : OX K mg "TooMany" c_TooMany (.ref c_MeetError :: VE)) (O_NoText : OX K mg "NoText" c_NoText (.ref c_MeetError :: VE)) (O_NoName : OX K mg "NoName" c_NoName (.ref c_MeetError :: VE)) (O_NoRow : OX K mg "NoRow" c_NoRow (.ref c_MeetError :: VE)) (Z_NoPaper : OC K c_NoPaper) (ndE : [c_MeetError, c_NoPlan, c_NoPaper, c_NoPrimes, c_TooMany, c_NoText, c_NoName, c_NoRow].Nodup) :
    ∃ fd : FuncData, (∀ (s : Shared) (v : Value), BindsTo s fd ⟨[v], []⟩ [("script", v)]) ∧ ∀ base : Heap, K.In base → base.Ns mainGlobals mg → FnOk P w K mg base CX0 12 fa fd ["script"] (sp_law K) :=
  has_law KX G hfa fun _ _ _ =>
    have dv := h_divisor T_divisor
    have big := h_law_big T_law_big
    have ca := h_law_cell_at T_law_cell_at m_len
    have sh := h_shifts T_shifts (h_shifts_of_two T_shifts_of_two m_min dv)
    have rf := h_right_for T_right_for m_len m_enumerate (h_lies_in T_lies_in dv) (h_part_of_part T_part_of_part)
    have lm2 := h_lets_meet T_lets_meet sh (h_lets_by T_lets_by C_ALL_TURNS (rf 2))
    have lm3 := h_lets_meet T_lets_meet sh (h_lets_by T_lets_by C_ALL_TURNS (rf 3))
    have pr := h_pair_round T_pair_round (h_pair_of T_pair_of m_len) (h_least_round T_least_round dv)
    have ro := h_law_round T_law_round (h_law_divisor T_law_divisor)
    have pa := h_law_paper T_law_paper m_len m_range m_max big ro (h_law_meet T_law_meet (h_law_divisor T_law_divisor)) (h_law_by_parts T_law_by_parts m_len m_range m_max ro)
    h_law T_law m_len m_list ca (h_law_whole T_law_whole m_isinstance m_int m_bool) (h_law_made T_law_made m_len m_range ca big (h_law_plan T_law_plan m_len m_range big) pa) (h_law_bad T_law_bad big)
      (h_law_refused O_MeetError O_NoPlan O_NoPaper O_NoPrimes O_TooMany O_NoText O_NoName O_NoRow Z_NoPaper ndE T_law_refused m_isinstance m_ValueError (waits_of_x (h_waits_ofU T_waits_of m_len m_sum m_zip O_NoPaper (hasL_x (h_paper_waitB T_paper_wait m_max m_set m_sorted O_NoPaper lm3 (h_paper_names T_paper_names 3) pr)))))
      (waits_of_quiet (h_waits_ofU T_waits_of m_len m_sum m_zip O_NoPaper (hasL_x (h_paper_waitB T_paper_wait m_max m_set m_sorted O_NoPaper lm2 (h_paper_names T_paper_names 2) pr))))
end
end SMk63
set_option maxRecDepth 100000 in
set_option maxHeartbeats 0 in
theorem PySem.Challenge.cw_shiftmeet_k63_waits_of_letters_holds : PySem.Challenge.rw_shiftmeet_k63_waits_of_letters.Holds := by
  w_on; o_law; k_head; (case hw => w_witness2)
  k_fill
  refine L2.law_walk (l := PySem.Challenge.rw_shiftmeet_k63_waits_of_letters) (k := 12) (sp := SMk63.sp_law) rfl rfl ⟨rfl, by decide, by decide⟩ (fun w h Y => PySem.W.kIn_of Y) ?F SMk63.sp_start
  case F =>
    intro w mg fa h KX G hmg
    refine' SMk63.fin KX G hmg (L2.tf_mk KX G ?a0 ?l0 ?c0 ?k0) (L2.tf_mk KX G ?a1 ?l1 ?c1 ?k1) (L2.tf_mk KX G ?a2 ?l2 ?c2 ?k2) (L2.tf_mk KX G ?a3 ?l3 ?c3 ?k3) (L2.tf_mk KX G ?a4 ?l4 ?c4 ?k4) (L2.tf_mk KX G ?a5 ?l5 ?c5 ?k5) (L2.tf_mk KX G ?a6 ?l6 ?c6 ?k6) (L2.tf_mk KX G ?a7 ?l7 ?c7 ?k7) (L2.tf_mk KX G ?a8 ?l8 ?c8 ?k8) (L2.tf_mk KX G ?a9 ?l9 ?c9 ?k9) (L2.tf_mk KX G ?a10 ?l10 ?c10 ?k10) (L2.tf_mk KX G ?a11 ?l11 ?c11 ?k11) (L2.tf_mk KX G ?a12 ?l12 ?c12 ?k12) (L2.tf_mk KX G ?a13 ?l13 ?c13 ?k13) (L2.tf_mk KX G ?a14 ?l14 ?c14 ?k14) (L2.tf_mk KX G ?a15 ?l15 ?c15 ?k15) (L2.tf_mk KX G ?a16 ?l16 ?c16 ?k16) (L2.tf_mk KX G ?a17 ?l17 ?c17 ?k17) (L2.tf_mk KX G ?a18 ?l18 ?c18 ?k18) (L2.tf_mk KX G ?a19 ?l19 ?c19 ?k19) (L2.tf_mk KX G ?a20 ?l20 ?c20 ?k20) (L2.tf_mk KX G ?a21 ?l21 ?c21 ?k21) (L2.tf_mk KX G ?a22 ?l22 ?c22 ?k22) (L2.tf_mk KX G ?a23 ?l23 ?c23 ?k23) (L2.tf_mk KX G ?a24 ?l24 ?c24 ?k24) (L2.tf_mk KX G ?a25 ?l25 ?c25 ?k25) (L2.tf_mk KX G ?a26 ?l26 ?c26 ?k26) (PySem.W.mg_none_of KX G ?z0) (PySem.W.mg_none_of KX G ?z1) (PySem.W.mg_none_of KX G ?z2) (PySem.W.mg_none_of KX G ?z3) (PySem.W.mg_none_of KX G ?z4) (PySem.W.mg_none_of KX G ?z5) (PySem.W.mg_none_of KX G ?z6) (PySem.W.mg_none_of KX G ?z7) (PySem.W.mg_none_of KX G ?z8) (PySem.W.mg_none_of KX G ?z9) (PySem.W.mg_none_of KX G ?z10) (PySem.W.mg_none_of KX G ?z11) (PySem.W.mg_none_of KX G ?z12) (PySem.W.mg_none_of KX G ?z13) (L2.ct_mk KX G ?t0 ?u0 ?v0 ?w0 ?x0 ?y0) (L2.ox_mk KX G ?ea0 ?el0 ?ex0) (L2.ox_mk KX G ?ea1 ?el1 ?ex1) (L2.ox_mk KX G ?ea2 ?el2 ?ex2) (L2.ox_mk KX G ?ea3 ?el3 ?ex3) (L2.ox_mk KX G ?ea4 ?el4 ?ex4) (L2.ox_mk KX G ?ea5 ?el5 ?ex5) (L2.ox_mk KX G ?ea6 ?el6 ?ex6) (L2.ox_mk KX G ?ea7 ?el7 ?ex7) ⟨?oa0, ?ob0, ?oc0⟩ ?nd
    (case a0 => k_is); (case l0 => k_is); (case c0 => k_is); (case k0 => k_is)
    (case a1 => k_is); (case l1 => k_is); (case c1 => k_is); (case k1 => k_is)
    (case a2 => k_is); (case l2 => k_is); (case c2 => k_is); (case k2 => k_is)
    (case a3 => k_is); (case l3 => k_is); (case c3 => k_is); (case k3 => k_is)
    (case a4 => k_is); (case l4 => k_is); (case c4 => k_is); (case k4 => k_is)
    (case a5 => k_is); (case l5 => k_is); (case c5 => k_is); (case k5 => k_is)
    (case a6 => k_is); (case l6 => k_is); (case c6 => k_is); (case k6 => k_is)
    (case a7 => k_is); (case l7 => k_is); (case c7 => k_is); (case k7 => k_is)
    (case a8 => k_is); (case l8 => k_is); (case c8 => k_is); (case k8 => k_is)
    (case a9 => k_is); (case l9 => k_is); (case c9 => k_is); (case k9 => k_is)
    (case a10 => k_is); (case l10 => k_is); (case c10 => k_is); (case k10 => k_is)
    (case a11 => k_is); (case l11 => k_is); (case c11 => k_is); (case k11 => k_is)
    (case a12 => k_is); (case l12 => k_is); (case c12 => k_is); (case k12 => k_is)
    (case a13 => k_is); (case l13 => k_is); (case c13 => k_is); (case k13 => k_is)
    (case a14 => k_is); (case l14 => k_is); (case c14 => k_is); (case k14 => k_is)
    (case a15 => k_is); (case l15 => k_is); (case c15 => k_is); (case k15 => k_is)
    (case a16 => k_is); (case l16 => k_is); (case c16 => k_is); (case k16 => k_is)
    (case a17 => k_is); (case l17 => k_is); (case c17 => k_is); (case k17 => k_is)
    (case a18 => k_is); (case l18 => k_is); (case c18 => k_is); (case k18 => k_is)
    (case a19 => k_is); (case l19 => k_is); (case c19 => k_is); (case k19 => k_is)
    (case a20 => k_is); (case l20 => k_is); (case c20 => k_is); (case k20 => k_is)
    (case a21 => k_is); (case l21 => k_is); (case c21 => k_is); (case k21 => k_is)
    (case a22 => k_is); (case l22 => k_is); (case c22 => k_is); (case k22 => k_is)
    (case a23 => k_is); (case l23 => k_is); (case c23 => k_is); (case k23 => k_is)
    (case a24 => k_is); (case l24 => k_is); (case c24 => k_is); (case k24 => k_is)
    (case a25 => k_is); (case l25 => k_is); (case c25 => k_is); (case k25 => k_is)
    (case a26 => k_is); (case l26 => k_is); (case c26 => k_is); (case k26 => k_is)
    (case z0 => k_is)
    (case z1 => k_is)
    (case z2 => k_is)
    (case z3 => k_is)
    (case z4 => k_is)
    (case z5 => k_is)
    (case z6 => k_is)
    (case z7 => k_is)
    (case z8 => k_is)
    (case z9 => k_is)
    (case z10 => k_is)
    (case z11 => k_is)
    (case z12 => k_is)
    (case z13 => k_is)
    (case t0 => k_is); (case u0 => k_is); (case v0 => rfl); (case w0 => rfl); (case x0 => decide); (case y0 => exact .cons ⟨_, rfl⟩ (.cons ⟨_, rfl⟩ .nil))
    (case ea0 => k_is); (case el0 => k_is); (case ex0 => k_exc)
    (case ea1 => k_is); (case el1 => k_is); (case ex1 => k_exc)
    (case ea2 => k_is); (case el2 => k_is); (case ex2 => k_exc)
    (case ea3 => k_is); (case el3 => k_is); (case ex3 => k_exc)
    (case ea4 => k_is); (case el4 => k_is); (case ex4 => k_exc)
    (case ea5 => k_is); (case el5 => k_is); (case ex5 => k_exc)
    (case ea6 => k_is); (case el6 => k_is); (case ex6 => k_exc)
    (case ea7 => k_is); (case el7 => k_is); (case ex7 => k_exc)
    (case oa0 => k_is); (case ob0 => k_is); (case oc0 => k_is)
    (case nd => decide +kernel)


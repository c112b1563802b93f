import PyProof.Rows.All
import Wide.All
import OpenK.AllK
import Wide.FinOn
import PyProof.EqAt
import PyProof.EqKinds
import PyProof.TupleCall
import Lean
import PySem.Challenge.RW_shiftmeet_k83_sure_and_check
open PySem.W renaming Frag → u3q, mg_none_of → u4o, keepIn → u5L, hideAll_none → u5e, kia_one → u5k, emptyDict → u5p, findIn → u5r, hideAll → u5s, fnOf → u6F, instObj → u6b, makesIn → u6d
open PySem renaming wpAny_bind → u3r, wpAny_pure → u3u, sizeLine → u4L, sizeLine_eq → u4Q, starEach → u4W, boot_len → u4n, wpAny_newObj_type → u4r, mainGlobals → u4z, wpAny_mono → u5E, wpAny_callSpecial?_slot → u5J, wpAny_call_entry → u5S, wpAny_setState_of → u5U, Value → u5W, wpAny_seqItems → u5b, wpAny_field → u5t, codeAny_builtin → u5u, wpAny_Call_Name_kw → u6M, compareOp → u6Q, wpAny_truthy_bool → u6Y, SetTable → u6i, typeIs_str → u6j
open List renaming length_append → u3s, mem_cons → u3w, length_cons → u3x, length_map → u3z, getElem?_eq_getElem → u4A, not_mem_nil → u4B, mem_of_getElem? → u4F, length_nil → u4G, mem_append → u4H, size_toArray → u4I, getElem?_eq_some_iff → u4K, getD_eq_getElem?_getD → u4M, take_add_one → u4N, mem_singleton → u4O, getElem?_map → u4T, mem_append_right → u4U, mem_cons_of_mem → u4Z, take_length → u4b, getElem?_append_right → u4f, map_cons → u4j, getElem?_append_left → u4k, mem_map → u4l, append_assoc → u4m, length_drop → u4w, take_of_length_le → u5C, length_take → u5F, cons_append → u5G, eq_nil_of_length_eq_zero → u5H, lookup_cons → u5O, getElem_mem → u5T, nil_append → u5a, mem_filterMap → u5g, mem_range → u5j, append_nil → u5l, mem_append_left → u5w, all_eq_true → u5y, take_succ_cons → u6A, drop_eq_getElem_cons → u6C, nodup_cons → u6E, length_singleton → u6G, getElem?_eq_none → u6I, forIn_cons → u6J, mem_cons_self → u6L, range' → u6O, any_eq_true → u6P, mem_of_mem_drop → u6R, take_left → u6V, range → u6X, filterMap_cons → u6c
open PySem.Str renaming ofString → u3t, length → u6N
open PySem.Heap renaming get?_push_of_some → u3v, get?_push_size → u4C, lt_size → u4D, get?_update_self → u4x, get?_update_other → u5B, SameBut → u5x
open Nat renaming le_refl → u3y, lt_of_lt_of_le → u4X, ne_of_lt → u4c, zero_le → u4q, le_trans → u5I, lt_irrefl → u5n, not_lt_zero → u6K
open Int renaming mul_le_mul_of_nonneg_left → u4E, mul_ediv_add_emod → u4S, emod_lt_of_pos → u4Y, emod_nonneg → u4g, add_mul_emod_self_left → u4h, mul_assoc → u4t, dvd_trans → u5K, mul_le_mul_of_nonneg_right → u6H, dvd_of_emod_eq_zero → u6T, le_of_lt → u6U, toNat_natCast → u6Z, emod_eq_of_lt → u6a, toNat_of_nonneg → u6h
open PySem.Value renaming ref → u4J, none → u6W
open Array renaming length_toList → u4P, getElem?_toList → u4R
open PySem.StrLaws renaming occBody → u4V, sliceText → u5R
open Bool renaming and_eq_true → u4a, false_ne_true → u4i, false_eq_true → u5h, not_eq_true' → u6B, eq_iff_iff → u6D
open PySem.Builtin.Int renaming intBits → u4d
open Option renaming map_eq_some_iff → u4e
open PySem.PassesOwn renaming never → u4p
open PySem.Builtin.Str renaming occurrences → u4s, strKind → u5A, subAt → u5V, glued → u5q, strSliceIndices → u6g
open PySem.SetTable renaming below → u4u
open PySem.F renaming plainAttrs_list → u4v, plainAttrs_str → u5D, slot_str_split → u5N, slot_list_append → u5P, type_list_append → u5Q, plain_min_loop → u5i, entry_str_split → u5v, slot_tuple_iterator_next → u5z, slot_str_startswith → u6f
open PySem.Builtin.SmallTypes renaming nextOf → u4y, ownedTupleIsFree → u5o
open PySem.Heap.SameBut renaming update → u5M
open PySem.Obj renaming data_mapFields → u5X
open Option.some renaming inj → u5Y
open PyProof.Rows renaming callWith_type1 → u5Z
open False renaming elim → u5c
open PySem.Txt renaming partition → u5d, slice → u6e
open PySem.Around renaming under_plainId → u5f
open ForInStep renaming yield → u5m
open PySem.Builtin.Range renaming rangeSize → u6S
set_option Elab.async false
set_option linter.all false
set_option maxRecDepth 100000
namespace L2
open PySem PySem.Spec PyProof.Rows
noncomputable abbrev Key:=Sum Int Str
noncomputable def z8j:Key->Value->Bool
 | .inl k,v=>Value.isInt k v
 | .inr x,v=>Value.isStrOf x v
noncomputable def y7w (w:World):Key->Int
 | .inl k=>hashInt k
 | .inr x=>hashStr w x
theorem yT:∀ {k:Key} {v:Value},z8j k v=true->(∃i t,k=Sum.inl i/\v=Value.int i t)∨(∃x t,k=Sum.inr x/\v=Value.str x t)
 | .inl i,v,h=>by
  obtain⟨t,e⟩:=Value.isInt_shape (k:=i) (v:=v) h;exact .inl ⟨i,t,rfl,e⟩
 | .inr x,v,h=>by
  obtain⟨t,e⟩:=Value.isStrOf_shape (x:=x) (v:=v) h;exact .inr ⟨x,t,rfl,e⟩
theorem y0V (i:Int) (t:Tok):z8j (.inl i) (.int i t)=true:=by simp [z8j,Value.isInt]
theorem y0U (x:Str) (t:Tok):z8j (.inr x) (.str x t)=true:=by simp [z8j,Value.isStrOf]
theorem y6J (a b:Int):decide ((Sum.inl a:Key)=Sum.inl b)=(a == b):=by
 by_cases e:a=b
 ·subst e;simp
 ·have h:¬(Sum.inl a:Key)=Sum.inl b:=fun q=>e (Sum.inl.inj q);rw[decide_eq_false h];exact (beq_eq_false_iff_ne.mpr e).symm
theorem y6G (a b:Str):decide ((Sum.inr a:Key)=Sum.inr b)=decide (a=b):=by
 by_cases e:a=b
 ·subst e;simp
 ·have h:¬(Sum.inr a:Key)=Sum.inr b:=fun q=>e (Sum.inr.inj q);rw[decide_eq_false h,decide_eq_false e]
theorem y6I (a:Int) (b:Str):decide ((Sum.inl a:Key)=Sum.inr b)=false:=decide_eq_false (fun q=>nomatch q)
theorem y6H (a:Str) (b:Int):decide ((Sum.inr a:Key)=Sum.inl b)=false:=decide_eq_false (fun q=>nomatch q)
noncomputable def yS (prog:Program) (w:World):PySem.KeyKind prog w Key where
 is:=z8j
 hash:=y7w w
 inj:=fun v a b ha hb=>by
  rcases yT ha with⟨i,t,rfl,rfl⟩|⟨x,t,rfl,rfl⟩
  ·rcases yT hb with⟨j,u,rfl,e⟩|⟨y,u,rfl,e⟩
   ·injection e with e1 _;rw[e1]
   ·exact nomatch e
  ·rcases yT hb with⟨j,u,rfl,e⟩|⟨y,u,rfl,e⟩
   ·exact nomatch e
   ·injection e with e1 _;rw[e1]
 byValue:=fun k v h=>by
  rcases yT h with⟨i,t,rfl,rfl⟩|⟨x,t,rfl,rfl⟩ <;> rfl
 pyHash:=fun hv h=>by
  rcases yT hv with⟨i,t,rfl,rfl⟩|⟨x,t,rfl,rfl⟩
  ·exact wpAny_pyHash_int h
  ·exact wpAny_pyHash_str h
 eqBool:=fun hu hv h=>by
  rcases yT hu with⟨i,t,rfl,rfl⟩|⟨x,t,rfl,rfl⟩
  ·rcases yT hv with⟨j,u,rfl,rfl⟩|⟨y,u,rfl,rfl⟩
   ·rw[y6J] at h;exact wpAny_eqBool_int h
   ·rw[y6I] at h;exact SeqAt.EqAt.int_str i t y u _ _ _ _ h
  ·rcases yT hv with⟨j,u,rfl,rfl⟩|⟨y,u,rfl,rfl⟩
   ·rw[y6H] at h;exact SeqAt.EqAt.str_int x t j u _ _ _ _ h
   ·rw[y6G] at h;exact wpAny_eqBool_str h
 «strs»:=fun k x t v h=>by
  rcases yT h with⟨i,u,rfl,e⟩|⟨y,u,rfl,e⟩
  ·exact nomatch e
  ·injection e with e1 _;subst e1;cases v <;> rfl
theorem z6J (prog:Program) (w:World) (i:Int) (t:Tok):(yS prog w).is (.inl i) (.int i t)=true:=y0V i t
theorem z0m (prog:Program) (w:World) (x:Str) (t:Tok):(yS prog w).is (.inr x) (.str x t)=true:=y0U x t
inductive V where
 | non|bl (b:Bool)|int (i:Int)|str (x:Str)|byt (b:Array UInt8)|flt (b:UInt64)|ref (a:Addr)|ty (n:String)
 deriving DecidableEq
noncomputable def RelV:V->Value->Prop
 | .non,u=>u=u6W
 | .bl b,u=>u=Value.bool b
 | .int i,u=>∃t,u=Value.int i t
 | .str x,u=>∃t,u=Value.str x t
 | .byt b,u=>∃t,u=Value.bytes b t
 | .flt b,u=>∃t,u=Value.float b t
 | .ref a,u=>u=u4J a
 | .ty n,u=>u=Value.type n
noncomputable abbrev Vals:List V->List Value->Prop:=Paired RelV
theorem Vals.length {xs:List V} {us:List Value} (r:Vals xs us):xs.length=us.length:=Paired.length r
theorem Vals.get:∀ {xs:List V} {us:List Value} {i:Nat} {x:V},Vals xs us->xs[i]?=some x->∃u,us[i]?=some u/\RelV x u
 | _,_,_,_,.nil,e=>by simp at e
 | _,_,0,_,.cons r _,e=>by simp at e;subst e;exact⟨_,rfl,r⟩
 | _,_,i+1,x,.cons _ t,e=>by
  obtain⟨u,h1,h2⟩:=Vals.get (i:=i) (x:=x) t (by simpa using e);exact⟨u,by simpa using h1,h2⟩
theorem Vals.append:∀ {xs ys:List V} {us ws:List Value},Vals xs us->Vals ys ws->Vals (xs++ys) (us++ws)
 | _,_,_,_,.nil,s=>s
 | _,_,_,_,.cons r t,s=>.cons r (Vals.append t s)
theorem Vals.take:∀ {xs:List V} {us:List Value} (n:Nat),Vals xs us->Vals (xs.take n) (us.take n)
 | _,_,0,_=>.nil
 | _,_,_+1,.nil=>.nil
 | _,_,n+1,.cons r t=>.cons r (Vals.take n t)
theorem Vals.drop:∀ {xs:List V} {us:List Value} (n:Nat),Vals xs us->Vals (xs.drop n) (us.drop n)
 | _,_,0,r=>r
 | _,_,_+1,.nil=>.nil
 | _,_,n+1,.cons _ t=>Vals.drop n t
noncomputable def RelO:Option V->Option Value->Prop
 | some v,some u=>RelV v u
 | none,none=>True
 | _,_=>False
noncomputable def KV {κ:Type}:List (κ×V)->List (κ×Value)->Prop:=Paired fun (p:κ×V) (q:κ×Value)=>p.1=q.1/\RelV p.2 q.2
noncomputable def kV:Key->V
 | .inl i=>.int i
 | .inr x=>.str x
inductive HO where
 | lst (xs:List V)
 | tup (xs:List V)
 | dK (kvs:List (Key×V))|dT (kvs:List (List Key×V))
 | set (S:Int->Bool) (n:Nat)
 | ins (C dx:Addr) (fs:List (Str×V))
 | own (x:Addr)
 | xd (fs:List (Str×V))
 | met (f x:Addr)
 | rng (lo hi:Int)
 | frz (o:Obj) (u:HO)
 | tbl (ps:Array Value)
 | ext (φ:Heap->Prop)
noncomputable abbrev Hp:=Addr->Option HO
noncomputable def upd (H:Hp) (a:Addr) (o:HO):Hp:=fun b=>if b=a then some o else H b
theorem zH {H:Hp} {a:Addr} {o:HO}:upd H a o a=some o:=by unfold upd;rw[if_pos rfl]
theorem zb {H:Hp} {a b:Addr} {o:HO} (h:b≠a):upd H a o b=H b:=by unfold upd;rw[if_neg h]
theorem xV {H:Hp} {a b:Addr} {o u:HO} (h:H a=some o) (h':H b=some u) (d:o≠u):a≠b:=by
 intro e;subst e;rw[h] at h';exact d (u5Y h')
theorem zW {H:Hp} {a b:Addr} {o:HO} (h:H a=some o) (h':H b=none):a≠b:=by
 intro e;subst e;rw[h] at h';cases h'
section
variable (P:Program) (w:World)
noncomputable def ObjOk (H:Hp) (h:Heap) (a:Addr):HO->Prop
 | .lst xs=>xs.length<=u4L/\∃(its:List Value) (n:Nat),Vals xs its/\h.get? a=some { cls:=.type "list",data:=.seq its.toArray n }
 | .tup xs=>xs.length<=u4L/\∃its:List Value,Vals xs its/\IsTup h a its.toArray
 | .dK kvs=>kvs.length<=u4L/\(a == sysModules)=false/\∃vs,KV kvs vs/\h.DictOf (yS P w) a vs
 | .dT kvs=>kvs.length<=u4L/\(a == sysModules)=false/\∃xs:List (List Key×Addr×Value),
   Paired (fun (p:List Key×V) (q:List Key×Addr×Value)=>p.1=q.1/\H q.2.1=some (.tup (p.1.map kV))/\RelV p.2 q.2.2) kvs xs/\
   ∃o es ep,h.get? a=some o/\o.ExactDict/\o.data=.dict es ep/\es.toList=xs.map (entryOfKey (tupleKind (yS P w)))/\(xs.map (·.1)).Nodup
 | .set S n=>h.SetOf (intKind P w) a S n
 | .ins C dx fs=>H dx=some (.own a)/\fs.length<=1000/\dx≠a/\h.get? a=some (u6b C dx)/\
   ∃mA,h.Ns1 dx mA/\(∀f,RelO (fs.lookup f) (mA f))/\PySem.Within mA (fs.map (·.1))
 | .own _=>∃o,h.get? a=some o
 | .xd fs=>∃mA,h.Ns1 a mA/\∀f,RelO (fs.lookup f) (mA f)
 | .rng lo hi=>∃t u v,h.get? a=some { cls:=.type "range",data:=.fields #[.int lo t,.int hi u,.int 1 v] }
 | .frz o u=>h.get? a=some o/\ObjOk H h a u
 | .tbl ps=>h.get? a=some { cls:=.none,data:=.fields ps }
 | .met f x=>h.get? a=some (PySem.W.methodObj (.ref f) (.ref x))
 | .ext φ=>φ h/\(∃o,h.get? a=some o)/\∀h1 h2:Heap,φ h1->(∀o,h1.get? a=some o->h2.get? a=some o)->φ h2
noncomputable def HOk (H:Hp) (h:Heap):Prop:=∀a o,H a=some o->ObjOk P w H h a o
end
section
variable {P:Program} {w:World} {H H':Hp} {h h':Heap} {a:Addr} {o:HO}
theorem ObjOk.lt (x:ObjOk P w H h a o):a<h.objs.size:=by
 cases o with
 | lst xs=>obtain⟨_,_,_,_,e⟩:=x;exact u4D e
 | tup xs=>obtain⟨_,_,_,p⟩:=x;exact p.lt
 | dK kvs=>obtain⟨_,_,_,_,o,_,_,e,_⟩:=x;exact u4D e
 | dT kvs=>obtain⟨_,_,_,_,o,_,_,e,_⟩:=x;exact u4D e
 | set S n=>obtain⟨o,_,_,_,e,_⟩:=x;exact u4D e
 | ins C dx fs=>obtain⟨_,_,_,e,_⟩:=x;exact u4D e
 | own y=>obtain⟨_,e⟩:=x;exact u4D e
 | xd fs=>obtain⟨_,⟨_,_,_,e,_⟩,_⟩:=x;exact u4D e
 | rng lo hi=>obtain⟨_,_,_,e⟩:=x;exact u4D e
 | frz ob u=>obtain⟨e,_⟩:=x;exact u4D e
 | tbl ps=>exact u4D (show h.get? a=some _ from x)
 | met f y=>exact u4D (show h.get? a=some _ from x)
 | ext φ=>obtain⟨_,⟨_,e⟩,_⟩:=x;exact u4D e
theorem Paired.mapP {α β:Type} {F G:α->β->Prop}:∀ {l₁:List α} {l₂:List β},Paired F l₁ l₂->(∀a b,F a b->G a b)->Paired G l₁ l₂
 | _,_,.nil,_=>.nil
 | _,_,.cons r t,f=>.cons (f _ _ r) (Paired.mapP t f)
theorem ObjOk.stay (x:ObjOk P w H h a o) (k:∀b u,(b=a∨H b=some (.own a))->h.get? b=some u->h'.get? b=some u)
  (ho:∀b,H b=some (.own a)->H' b=some (.own a)) (ht:∀b xs,H b=some (.tup xs)->H' b=some (.tup xs)):ObjOk P w H' h' a o:=by
 induction o with
 | lst xs=>obtain⟨z,its,n,r,e⟩:=x;exact⟨z,its,n,r,k _ _ (.inl rfl) e⟩
 | tup xs=>obtain⟨z,its,r,ob,e,c⟩:=x;exact⟨z,its,r,ob,k _ _ (.inl rfl) e,c⟩
 | dK kvs=>obtain⟨z,y,vs,r,ob,es,ep,e,c⟩:=x;exact⟨z,y,vs,r,ob,es,ep,k _ _ (.inl rfl) e,c⟩
 | dT kvs=>
  obtain⟨z,y,xs,r,ob,es,ep,e,c⟩:=x;exact⟨z,y,xs,Paired.mapP r fun p q z=>⟨z.1,ht _ _ z.2.1,z.2.2⟩,ob,es,ep,k _ _ (.inl rfl) e,c⟩
 | set S n=>obtain⟨ob,es,ep,t,e,c⟩:=x;exact⟨ob,es,ep,t,k _ _ (.inl rfl) e,c⟩
 | ins C dx fs=>
  obtain⟨d,z,ne,e,mA,⟨od,es,ep,e2,c⟩,r⟩:=x;exact⟨ho _ d,z,ne,k _ _ (.inl rfl) e,mA,⟨od,es,ep,k _ _ (.inr d) e2,c⟩,r⟩
 | own y=>obtain⟨ob,e⟩:=x;exact⟨ob,k _ _ (.inl rfl) e⟩
 | xd fs=>obtain⟨mA,⟨od,es,ep,e,c⟩,r⟩:=x;exact⟨mA,⟨od,es,ep,k _ _ (.inl rfl) e,c⟩,r⟩
 | rng lo hi=>obtain⟨t,u,v,e⟩:=x;exact⟨t,u,v,k _ _ (.inl rfl) e⟩
 | frz ob u ih=>obtain⟨e,q⟩:=x;exact⟨k _ _ (.inl rfl) e,ih q⟩
 | tbl ps=>
  have e:h.get? a=some { cls:=.none,data:=.fields ps }:=x;show h'.get? a=some { cls:=.none,data:=.fields ps };exact k a _ (.inl rfl) e
 | met f y=>
  have e:h.get? a=some (PySem.W.methodObj (.ref f) (.ref y)):=x;show h'.get? a=some (PySem.W.methodObj (.ref f) (.ref y));exact k a _ (.inl rfl) e
 | ext φ=>obtain⟨p,⟨o,e⟩,st⟩:=x;exact⟨st _ _ p fun o q=>k _ _ (.inl rfl) q,⟨o,k _ _ (.inl rfl) e⟩,st⟩
theorem HOk.lt (x:HOk P w H h) (e:H a=some o):a<h.objs.size:=(x a o e).lt
theorem HOk.fresh (x:HOk P w H h) (e:h.objs.size<=a):H a=none:=by
 cases q:H a with
 | none=>rfl
 | some u=>exact absurd (u4X (x.lt q) e) (u5n _)
theorem HOk.kept (x:HOk P w H h) (k:∀b u,h.get? b=some u->h'.get? b=some u):HOk P w H h':=fun a o e=>
 (x a o e).stay (fun b u _ q=>k b u q) (fun _ q=>q) fun _ _ q=>q
theorem HOk.laid (x:HOk P w H h) (k:∀b u,h.get? b=some u->h'.get? b=some u) (hp:h.objs.size<=a) (new:ObjOk P w (upd H a o) h' a o):HOk P w (upd H a o) h':=fun b u e=>by
 have hn:=x.fresh hp;by_cases hb:b=a
 ·subst hb;rw[zH] at e;cases e;exact new
 ·rw[zb hb] at e;exact (x b u e).stay (fun c v _ q=>k c v q) (fun c q=>by rw[zb (zW q hn)];exact q) fun c xs q=>by rw[zb (zW q hn)];exact q
end
noncomputable def Rd (H:Hp) (a:Addr) (u:HO):Prop:=H a=some u∨∃o,H a=some (.frz o u)
theorem Rd.ok {P:Program} {w:World} {H:Hp} {h:Heap} {a:Addr} {u:HO} (r:Rd H a u) (x:HOk P w H h):ObjOk P w H h a u:=by
 rcases r with r|⟨o,r⟩
 ·exact x a u r
 ·obtain⟨_,q⟩:=x a _ r;exact q
noncomputable def Mut:Option HO->Prop
 | some (.lst _)=>True
 | some (.dK _)=>True
 | some (.dT _)=>True
 | some (.set _ _)=>True
 | some (.ins _ _ _)=>True
 | some (.ext _)=>True
 | _=>False
section
variable {P:Program} {w:World} {H:Hp} {h h':Heap} {x e:Addr} {o':HO}
theorem HOk.write (ok:HOk P w H h) (mu:Mut (H x)) (he:e=x∨H e=some (.own x)) (k:∀b u,b≠e->h.get? b=some u->h'.get? b=some u) (heo:∃u,h'.get? e=some u)
  (new:ObjOk P w (upd H x o') h' x o'):HOk P w (upd H x o') h':=fun b u q=>by
 have nown:∀c y,H c=some (.own y)->c≠x:=fun c y r z=>by subst z;rw[r] at mu;exact mu
 have ntup:∀c xs,H c=some (.tup xs)->c≠x:=fun c xs r z=>by subst z;rw[r] at mu;exact mu
 by_cases hb:b=x
 ·subst hb;rw[zH] at q;cases q;exact new
 ·rw[zb hb] at q;by_cases hbe:b=e
  ·have q':H b=some (.own x):=by
    rcases he with z|z
    ·exact absurd (hbe.trans z) hb
    ·rw[hbe];exact z
   rw[q] at q';cases q';obtain⟨v,hv⟩:=heo;exact⟨v,by rw[hbe];exact hv⟩
  ·refine (ok b u q).stay (fun c v hc r=>k c v ?_ r) (fun c r=>by rw[zb (nown c b r)];exact r) fun c xs r=>by rw[zb (ntup c xs r)];exact r
   rcases hc with rfl|hc
   ·exact hbe
   ·rintro rfl;rcases he with z|z
    ·exact nown c b hc z
    ·rw[hc] at z;cases z;exact hb rfl
end
structure Un (fs ex:List Addr) (H H':Hp) (h h':Heap):Prop where
 keep:∀b o,h.get? b=some o->H b=none->b∉fs->b∉ex->h'.get? b=some o
 slot:∀b o,h.get? b=some o->H b=none->b∈fs->b∉ex->∃sl,h'.get? b=some { o with slots:=sl }
 free:∀b o,h.get? b=some o->H b=none->b∉ex->H' b=none
 there:∀b o,h.get? b=some o->b∉ex->∃o',h'.get? b=some o'
 tups:∀b xs,H b=some (.tup xs)->H' b=some (.tup xs)
 frzs:∀b o u,H b=some (.frz o u)->H' b=some (.frz o u)
 tbls:∀b ps,H b=some (.tbl ps)->∃more,H' b=some (.tbl (ps++more))
section
variable {fs fs' ex ex':List Addr} {H H1 H2:Hp} {h h1 h2 h':Heap} {a x e:Addr} {o:HO}
theorem Un.any (u:Un fs ex H H1 h h1) {b:Addr} {ob:Obj} (q:h.get? b=some ob) (n:H b=none) (hx:b∉ex):∃sl,h1.get? b=some { ob with slots:=sl }:=by
 by_cases hb:b∈fs
 ·exact u.slot b ob q n hb hx
 ·exact⟨ob.slots,u.keep b ob q n hb hx⟩
theorem Un.trans (a:Un fs ex H H1 h h1) (b:Un fs ex H1 H2 h1 h2):Un fs ex H H2 h h2 where
 keep:=fun c ob q n hc hx=>b.keep c ob (a.keep c ob q n hc hx) (a.free c ob q n hx) hc hx
 slot:=fun c ob q n hc hx=>by
  obtain⟨sl,e1⟩:=a.slot c ob q n hc hx;obtain⟨sl',e2⟩:=b.slot c _ e1 (a.free c ob q n hx) hc hx;exact⟨sl',e2⟩
 free:=fun c ob q n hx=>by
  obtain⟨o',e1⟩:=a.there c ob q hx;exact b.free c o' e1 (a.free c ob q n hx) hx
 there:=fun c ob q hx=>by
  obtain⟨o',e1⟩:=a.there c ob q hx;exact b.there c o' e1 hx
 tups:=fun c xs q=>b.tups c xs (a.tups c xs q)
 frzs:=fun c ob xs q=>b.frzs c ob xs (a.frzs c ob xs q)
 tbls:=fun c ps q=>by
  obtain⟨m1,e1⟩:=a.tbls c ps q;obtain⟨m2,e2⟩:=b.tbls c _ e1;exact⟨m1++m2,by rw[e2,Array.append_assoc]⟩
theorem Un.kept (k:∀b u,h.get? b=some u->h'.get? b=some u):Un fs ex H H h h':=
 ⟨fun b ob q _ _ _=>k b ob q,fun b ob q _ _ _=>⟨ob.slots,k b ob q⟩,fun _ _ _ n _=>n,fun b ob q _=>⟨ob,k b ob q⟩,fun _ _ q=>q,fun _ _ _ q=>q,fun _ ps q=>⟨#[],by rw[q];simp⟩⟩
theorem Un.refl:Un fs ex H H h h:=Un.kept fun _ _ q=>q
theorem Un.laid (k:∀b u,h.get? b=some u->h'.get? b=some u) (hp:h.objs.size<=a) (hn:H a=none):Un fs ex H (upd H a o) h h' where
 keep:=fun b u q _ _ _=>k b u q
 slot:=fun b u q _ _ _=>⟨u.slots,k b u q⟩
 free:=fun b u q n _=>by rw[zb (u4c (u4X (u4D q) hp))];exact n
 there:=fun b u q _=>⟨u,k b u q⟩
 tups:=fun b xs q=>by rw[zb (zW q hn)];exact q
 frzs:=fun b u xs q=>by rw[zb (zW q hn)];exact q
 tbls:=fun b ps q=>⟨#[],by rw[zb (zW q hn),q];simp⟩
theorem Un.write (mu:Mut (H x)) (he:e=x∨H e=some (.own x)) (k:∀b u,b≠e->h.get? b=some u->h'.get? b=some u) (heo:∃u,h'.get? e=some u):Un fs ex H (upd H x o) h h':=by
 have hx:∀b,H b=none->b≠x:=fun b n z=>by subst z;rw[n] at mu;exact mu
 have hb:∀b,H b=none->b≠e:=fun b n z=>by
  subst z;rcases he with r|r
  ·exact hx b n r
  ·rw[n] at r;cases r
 have hm:∀b u,H b=some u->¬Mut (some u)->b≠x:=fun b u q nm z=>by subst z;rw[q] at mu;exact nm mu
 refine⟨fun b u q n _ _=>k b u (hb b n) q,fun b u q n _ _=>⟨u.slots,k b u (hb b n) q⟩,fun b u q n _=>by rw[zb (hx b n)];exact n,fun b u q _=>?_,
  fun b xs q=>by rw[zb (hm b _ q fun z=>z)];exact q,fun b u xs q=>by rw[zb (hm b _ q fun z=>z)];exact q,fun b ps q=>⟨#[],by rw[zb (hm b _ q fun z=>z),q];simp⟩⟩
 by_cases hbe:b=e
 ·subst hbe;exact heo
 ·exact⟨u,k b u hbe q⟩
theorem Un.mono (u:Un fs ex H H1 h h1) (hs:∀b∈fs,b∈fs') (hx:∀b∈ex,b∈ex'):Un fs' ex' H H1 h h1:=
 ⟨fun b ob q n hb he=>u.keep b ob q n (fun z=>hb (hs b z)) fun z=>he (hx b z),fun _ _ q n _ he=>u.any q n fun z=>he (hx _ z),fun b ob q n he=>u.free b ob q n fun z=>he (hx b z),fun b ob q he=>u.there b ob q fun z=>he (hx b z),u.tups,u.frzs,u.tbls⟩
end
noncomputable def trk (h:Heap) (H:Hp):List Addr:=(u6X h.objs.size).filter fun a=>(H a).isSome
noncomputable def y2t (h:Heap) (H:Hp):Heap:=u5s h (trk h H)
theorem y0d (h:Heap) (H:Hp):(y2t h H).objs.size=h.objs.size:=PySem.W.hideAll_size _ _
theorem y2s {h:Heap} {H:Hp} {b:Addr} {o:Obj} (e:h.get? b=some o) (n:H b=none):(y2t h H).get? b=some o:=
 PySem.W.hideAll_get _ e fun hm=>by
  have q:(H b).isSome=true:=(List.mem_filter.mp hm).2;rw[n] at q;simp at q
theorem y4b {h:Heap} {H:Hp} {b:Addr} {o:Obj} (e:(y2t h H).get? b=some o):h.get? b=some o/\H b=none:=by
 have e':h.get? b=some o:=PySem.W.of_hideAll (trk h H) e;refine⟨e',?_⟩;cases q:H b with
 | none=>rfl
 | some x=>
  have hm:b∈trk h H:=List.mem_filter.mpr ⟨u5j.mpr (u4D e'),by simp [q]⟩;have z:(y2t h H).get? b=none:=u5e (trk h H) hm;rw[z] at e;cases e
noncomputable def y5I (g h:Heap) (L:Addr):List (Addr×Obj):=(u6X h.objs.size).filterMap fun a=>if a=L∨(g.get? a).isSome=true then none else (h.get? a).map fun o=>(a,o)
noncomputable def rest (g h:Heap) (L d:Addr):List (Addr×Obj):=(y5I g h L).filter fun p=>decide (p.1≠d)
structure Mod (K:u3q) (mg:Str->Option Value) (base:Heap):Prop where
 kin:K.In base
 glob:base.Ns u4z mg
 blt:∃mb,base.Ns builtinsNs mb/\∀x:Str,x≠ "__name__" ->mb x=bootBuiltins x
 nolimit:base.NoLimit
structure Cx where
 prog:Program
 w:World
 K:u3q
 mg:Str->Option Value
 base:Heap
 A:Around
 N:List Str
 s₀:Shared
 H₀:Hp
 env:Env
 outer:List Env
 stack:List Env
 ex:List Addr
 fn:Str->Bool
 calm:Bool
 pn:List (Addr×Obj)
 xe:Value->Shared->Prop
noncomputable def frs (l:List Env):List Addr:=l.filterMap (·.frame)
noncomputable abbrev Cx.fs (X:Cx):List Addr:=frs X.outer
noncomputable def Vis (sc:Scope) (x:Str):Prop:=sc.names.lookup x=some .local∨sc.names.lookup x=some .cell∨sc.names.lookup x=some .free
noncomputable def Loc (sc:Scope) (x:Str):Prop:=sc.names.lookup x=some .local∨sc.names.lookup x=some .cell
noncomputable def y8D (env:Env) (h:Heap) (m:Str->Option Value) (x:Str) (u:Value):Prop:=
 (env.kindOf x=some .local/\m x=some u)∨((env.kindOf x=some .cell∨env.kindOf x=some .free)/\∃c,env.cells.lookup x=some c/\h.IsCell c (some u))
structure Cx.Ok (X:Cx):Prop where
 mod:Mod X.K X.mg X.base
 kind:X.env.scope.kind=.function
 glob:X.env.globals=u4z
 blt:X.env.builtins=builtinsNs
 above:X.s₀.heap.objs.size<=X.env.locals
 inj:∀x y c,X.env.cells.lookup x=some c->X.env.cells.lookup y=some c->x=y
 has:∀x,(X.env.kindOf x=some .cell∨X.env.kindOf x=some .free)->∃c,X.env.cells.lookup x=some c
 cab:∀x c,X.fn x=true->X.env.cells.lookup x=some c->X.s₀.heap.objs.size<=c
 hd:X.calm=true->X.A.handled=none
 frames:X.A.frames=some X.stack
 stk:X.stack=X.outer∨(X.stack=X.env::X.outer/\X.env.frame=some X.env.locals)
 exf:∀b∈X.ex,b≠X.env.locals/\∀x c,X.env.cells.lookup x=some c->c≠b
 bs:∀b o,X.base.get? b=some o->X.s₀.heap.get? b=some o/\X.H₀ b=none
 bsz:X.base.objs.size<=X.s₀.heap.objs.size
 noex:∀b o,X.base.get? b=some o->b∉X.ex
 exfs:∀b∈X.ex,b∉X.fs
 funs:X.s₀.heap.FunFrames X.base X.outer
 frf:∀b∈X.fs,X.H₀ b=none
structure Inv (X:Cx) (pins:List (Addr×Obj)) (σ:List (Option V)) (H:Hp) (s:Shared):Prop where
 ok:X.Ok
 os:s.os=X.s₀.os
 bare:AllBare s.gens
 base:Un X.fs X.ex X.H₀ H X.s₀.heap s.heap
 loc:∃m,s.heap.Ns X.env.locals m/\∀(i:Nat) (x:Str) (v:V),X.N[i]?=some x->σ[i]?=some (some v)->Vis X.env.scope x->∃u,RelV v u/\y8D X.env s.heap m x u
 cell:∀x c,X.env.cells.lookup x=some c->∃v,s.heap.IsCell c v
 free:H X.env.locals=none
 freeC:∀x c,X.env.cells.lookup x=some c->H c=none
 pin:∀p∈X.pn++pins,s.heap.get? p.1=some p.2/\H p.1=none/\p.1≠X.env.locals/\p.1∉X.fs/\∀v,p.2.data≠.cell v
 hok:HOk X.prog X.w H s.heap
 len:σ.length=X.N.length
section
variable {X:Cx} {pins:List (Addr×Obj)} {σ:List (Option V)} {H H':Hp} {s:Shared} {h':Heap}
theorem Cx.Ok.nofr (ok:X.Ok) {b:Addr} {o:Obj} (e:X.base.get? b=some o):b∉X.fs:=fun hb=>by
 have:=(ok.funs.mem hb).1;rw[e] at this;cases this
theorem Inv.bs (I:Inv X pins σ H s):∀b o,X.base.get? b=some o->s.heap.get? b=some o/\H b=none:=fun b o e=>
 ⟨I.base.keep b o (I.ok.bs b o e).1 (I.ok.bs b o e).2 (I.ok.nofr e) (I.ok.noex b o e),I.base.free b o (I.ok.bs b o e).1 (I.ok.bs b o e).2 (I.ok.noex b o e)⟩
theorem Inv.bk (I:Inv X pins σ H s):∀b o,X.base.get? b=some o->s.heap.get? b=some o:=fun b o e=>(I.bs b o e).1
theorem Inv.mod (I:Inv X pins σ H s):Mod X.K X.mg X.base:=I.ok.mod
theorem Inv.kIn (I:Inv X pins σ H s):X.K.In s.heap:=I.ok.mod.kin.keeps I.bk
theorem Inv.lt (I:Inv X pins σ H s):X.env.locals<s.heap.objs.size:=let ⟨_,hn,_⟩:=I.loc;hn.lt
theorem Inv.sz (I:Inv X pins σ H s):X.s₀.heap.objs.size<=s.heap.objs.size:=u5I I.ok.above (Nat.le_of_lt I.lt)
theorem Inv.nofs (I:Inv X pins σ H s) {a:Addr} (h:s.heap.objs.size<=a):a∉X.fs:=fun hb=>by
 obtain⟨_,o,ho,_⟩:=I.ok.funs.mem hb;exact absurd (u4X (u4D ho) (u5I I.sz h)) (u5n _)
theorem Inv.cne (I:Inv X pins σ H s):∀x c,X.env.cells.lookup x=some c->c≠X.env.locals:=fun x c e z=>by
 obtain⟨v,o,ho,hd⟩:=I.cell x c e;obtain⟨m,⟨o',es,ep,ho',hd',_⟩,_⟩:=I.loc;rw[z,ho'] at ho;cases ho;rw[hd'] at hd;cases hd
theorem Inv.funs (I:Inv X pins σ H s):s.heap.FunFrames X.base X.outer:=by
 have all:∀(l:List Env),(∀b∈frs l,b∈X.fs)->X.s₀.heap.FunFrames X.base l->s.heap.FunFrames X.base l:=by
  intro l
  induction l with
  | nil=>intro _ _;trivial
  | cons env r ih=>
   intro hs hl;obtain⟨hk,⟨L,o,hf,hn,ho,hd⟩,hr⟩:=hl;have hL:L∈X.fs:=hs L (by unfold frs;rw[u6c,hf];exact u6L);obtain⟨sl,e⟩:=I.base.slot L o ho (I.ok.frf L hL) hL fun z=>I.ok.exfs L z hL;exact⟨hk,⟨L,_,hf,hn,e,hd⟩,ih (fun b hb=>hs b (by unfold frs;rw[u6c,hf];exact u4Z _ hb)) hr⟩
 exact all X.outer (fun _ hb=>hb) I.ok.funs
theorem Inv.stack (I:Inv X pins σ H s):s.heap.FunFrames X.base X.stack:=by
 rcases I.ok.stk with e|⟨e,hf⟩
 ·rw[e];exact I.funs
 ·rw[e];obtain⟨m,hn,_⟩:=I.loc;refine .cons (by rw[I.ok.kind];decide) hf hn ?_ I.funs;exact Heap.get?_none_of_le (u5I I.ok.bsz I.ok.above)
theorem Inv.stkSub (I:Inv X pins σ H s):∀b∈frs X.stack,b∈X.env.locals::X.fs:=fun b hb=>by
 rcases I.ok.stk with e|⟨e,hf⟩
 ·rw[e] at hb;exact u4Z _ hb
 ·rw[e] at hb;unfold frs at hb;rw[u6c,hf] at hb;exact hb
theorem Inv.stkFree (I:Inv X pins σ H s):∀b∈frs X.stack,H b=none:=fun b hb=>by
 rcases u3w.mp (I.stkSub b hb) with e|hb
 ·rw[e];exact I.free
 ·obtain⟨_,o,ho,_⟩:=I.ok.funs.mem hb;exact I.base.free b o ho (I.ok.frf b hb) fun z=>I.ok.exfs b z hb
theorem Inv.step {g':Array GenState} {t':Nat} {d':Drawn} {ch:List Addr} (I:Inv X pins σ H s)
  (hch:∀b∈ch,(b∈X.ex∨X.s₀.heap.objs.size<=b)/\b≠X.env.locals/\(∀x c,X.env.cells.lookup x=some c->c≠b)/\∀p∈X.pn++pins,p.1≠b)
  (keep:∀b o,b≠X.env.locals->b∉X.fs->b∉ch->s.heap.get? b=some o->H b=none->h'.get? b=some o)
  (slot:∀b o,b≠X.env.locals->b∈X.fs->b∉ch->s.heap.get? b=some o->H b=none->∃sl,h'.get? b=some { o with slots:=sl }) (free:∀b o,b∉ch->s.heap.get? b=some o->H b=none->H' b=none)
  (there:∀b o,b∉ch->s.heap.get? b=some o->∃o',h'.get? b=some o')
  (tups:∀b xs,H b=some (.tup xs)->H' b=some (.tup xs)) (frzs:∀b o u,H b=some (.frz o u)->H' b=some (.frz o u)) (tbls:∀b ps,H b=some (.tbl ps)->∃more,H' b=some (.tbl (ps++more)))
  (ns:∀m,s.heap.Ns X.env.locals m->h'.Ns X.env.locals m) (hok:HOk X.prog X.w H' h') (hg:AllBare g') :
  Inv X pins σ H' { s with heap:=h',gens:=g',drawn:=d',toks:=t' }:=by
 have neL:∀b o,X.s₀.heap.get? b=some o->b≠X.env.locals:=fun b o e=>u4c (u4X (u4D e) I.ok.above);have neC:∀b o,X.s₀.heap.get? b=some o->b∉X.ex->b∉ch:=fun b o e hx hb=>by
  rcases (hch b hb).1 with z|z
  ·exact hx z
  ·exact absurd (u4X (u4D e) z) (u5n _)
 have cellK:∀x c,X.env.cells.lookup x=some c->∀v,s.heap.IsCell c v->h'.IsCell c v:=fun x c e v ⟨o,ho,hd⟩=>by
  have nch:c∉ch:=fun z=>(hch c z).2.2.1 x c e rfl;by_cases hc:c∈X.fs
  ·obtain⟨sl,q⟩:=slot c o (I.cne x c e) hc nch ho (I.freeC x c e);exact⟨_,q,hd⟩
  ·exact⟨o,keep c o (I.cne x c e) hc nch ho (I.freeC x c e),hd⟩
 refine⟨I.ok,I.os,hg,⟨fun b o e n hb hx=>?_,fun b o e n hb hx=>?_,fun b o e n hx=>?_,fun b o e hx=>?_,fun b xs e=>tups b xs (I.base.tups b xs e),fun b o xs e=>frzs b o xs (I.base.frzs b o xs e),fun b ps e=>?_⟩,?_,fun x c e=>?_,?_,fun x c e=>?_,fun p hp=>?_,hok,I.len⟩
 ·exact keep b o (neL b o e) hb (neC b o e hx) (I.base.keep b o e n hb hx) (I.base.free b o e n hx)
 ·obtain⟨sl,e1⟩:=I.base.slot b o e n hb hx;obtain⟨sl',e2⟩:=slot b _ (neL b o e) hb (neC b o e hx) e1 (I.base.free b o e n hx);exact⟨sl',e2⟩
 ·obtain⟨o',e1⟩:=I.base.there b o e hx;exact free b o' (neC b o e hx) e1 (I.base.free b o e n hx)
 ·obtain⟨o',e1⟩:=I.base.there b o e hx;exact there b o' (neC b o e hx) e1
 ·obtain⟨m1,e1⟩:=I.base.tbls b ps e;obtain⟨m2,e2⟩:=tbls b _ e1;exact⟨m1++m2,by rw[e2,Array.append_assoc]⟩
 ·obtain⟨m,hn,hl⟩:=I.loc;refine⟨m,ns m hn,fun i x v e1 e2 e3=>?_⟩;obtain⟨u,r,l⟩:=hl i x v e1 e2 e3;refine⟨u,r,?_⟩;rcases l with l|⟨k,c,e,z⟩
  ·exact .inl l
  ·exact .inr ⟨k,c,e,cellK x c e _ z⟩
 ·obtain⟨v,z⟩:=I.cell x c e;exact⟨v,cellK x c e v z⟩
 ·obtain⟨m,⟨o,_,_,ho,_⟩,_⟩:=I.loc;exact free _ o (fun z=>(hch _ z).2.1 rfl) ho I.free
 ·obtain⟨v,o,ho,hd⟩:=I.cell x c e;exact free c o (fun z=>(hch c z).2.2.1 x c e rfl) ho (I.freeC x c e)
 ·obtain⟨e,n,ne,nf,d⟩:=I.pin p hp;have nch:p.1∉ch:=fun z=>(hch p.1 z).2.2.2 p hp rfl;exact⟨keep p.1 p.2 ne nf nch e n,free p.1 p.2 nch e n,ne,nf,d⟩
theorem Inv.un {t':Nat} (I:Inv X pins σ H s) (u:Un X.fs [] H H' s.heap h') (hok:HOk X.prog X.w H' h'):Inv X pins σ H' { s with heap:=h',toks:=t' }:=by
 obtain⟨m,⟨o,es,ep,ho,r⟩,_⟩:=id I.loc;obtain⟨sl,hL⟩:=u.any ho I.free (by simp);exact I.step (g':=s.gens) (d':=s.drawn) (ch:=[]) (fun _ z=>nomatch z) (fun b o _ hb _ e n=>u.keep b o e n hb (by simp)) (fun b o _ hb _ e n=>u.slot b o e n hb (by simp)) (fun b o _ e n=>u.free b o e n (by simp)) (fun b o _ e=>u.there b o e (by simp)) u.tups u.frzs u.tbls (fun m' hm=>by
  obtain⟨o',es',ep',ho',r'⟩:=hm;rw[ho] at ho';cases ho';exact⟨_,es',ep',hL,r'⟩) hok I.bare
theorem Inv.call {g':Array GenState} {t':Nat} {d':Drawn} {ch:List Addr} (I:Inv X pins σ H s) (u:Un (frs X.stack) ch H H' s.heap h') (hok:HOk X.prog X.w H' h') (hg:AllBare g')
  (hch:∀b∈ch,(b∈X.ex∨X.s₀.heap.objs.size<=b)/\b≠X.env.locals/\(∀x c,X.env.cells.lookup x=some c->c≠b)/\∀p∈X.pn++pins,p.1≠b) :
  Inv X pins σ H' { s with heap:=h',gens:=g',drawn:=d',toks:=t' }:=by
 obtain⟨m,⟨o,es,ep,ho,r⟩,_⟩:=id I.loc;obtain⟨sl,hL⟩:=u.any ho I.free fun z=>(hch _ z).2.1 rfl;exact I.step (ch:=ch) hch (fun b o hL hb hc e n=>u.keep b o e n (fun z=>(u3w.mp (I.stkSub b z)).elim hL hb) hc) (fun b o _ _ hc e n=>u.any e n hc) (fun b o hc e n=>u.free b o e n hc) (fun b o hc e=>u.there b o e hc) u.tups u.frzs u.tbls (fun m' hm=>by
  obtain⟨o',es',ep',ho',r'⟩:=hm;rw[ho] at ho';cases ho';exact⟨_,es',ep',hL,r'⟩) hok hg
theorem Inv.turned {t':Nat} {it:Addr} (I:Inv X pins σ H s) (k:∀b o,b≠it->s.heap.get? b=some o->h'.get? b=some o) (hn:H it=none) (hL:it≠X.env.locals)
  (h1:it∈X.ex∨X.s₀.heap.objs.size<=it) (h2:∀x c,X.env.cells.lookup x=some c->c≠it) (h3:∀p∈X.pn++pins,p.1≠it):Inv X pins σ H { s with heap:=h',toks:=t' }:=by
 have nit:∀b u,H b=some u->b≠it:=fun b u e z=>by rw[z,hn] at e;cases e
 refine I.step (g':=s.gens) (d':=s.drawn) (ch:=[it]) (fun b hb=>?_) (fun b o _ _ hc e _=>k b o (fun z=>hc (by simp [z])) e) (fun b o _ _ hc e _=>⟨o.slots,k b o (fun z=>hc (by simp [z])) e⟩) (fun _ _ _ _ n=>n)
  (fun b o hc e=>⟨o,k b o (fun z=>hc (by simp [z])) e⟩) (fun _ _ e=>e) (fun _ _ _ e=>e) (fun b ps e=>⟨#[],by rw[e];simp⟩) (fun m hm=>?_) (fun b u e=>?_) I.bare
 ·have e:b=it:=by simpa using hb
  subst e;exact⟨h1,hL,h2,h3⟩
 ·obtain⟨o,es,ep,ho,r⟩:=hm;exact⟨o,es,ep,k _ o (Ne.symm hL) ho,r⟩
 ·refine (I.hok b u e).stay (fun c v hc q=>k c v ?_ q) (fun _ q=>q) fun _ _ q=>q;rcases hc with z|z
  ·rw[z];exact nit b u e
  ·exact nit c _ z
theorem Inv.tok (I:Inv X pins σ H s) (t:Nat):Inv X pins σ H { s with toks:=t }:=I.un (h':=s.heap) (t':=t) Un.refl I.hok
theorem Inv.kept {t':Nat} (I:Inv X pins σ H s) (k:∀b u,s.heap.get? b=some u->h'.get? b=some u):Inv X pins σ H { s with heap:=h',toks:=t' }:=I.un (Un.kept k) (I.hok.kept k)
theorem Inv.laid {a:Addr} {o:HO} {t':Nat} (I:Inv X pins σ H s) (k:∀b u,s.heap.get? b=some u->h'.get? b=some u) (hp:s.heap.objs.size<=a) (new:ObjOk X.prog X.w (upd H a o) h' a o) :
  Inv X pins σ (upd H a o) { s with heap:=h',toks:=t' }:=I.un (Un.laid k hp (I.hok.fresh hp)) (I.hok.laid k hp new)
theorem Inv.write {x e:Addr} {o:HO} {t':Nat} (I:Inv X pins σ H s) (mu:Mut (H x)) (he:e=x∨H e=some (.own x)) (k:∀b u,b≠e->s.heap.get? b=some u->h'.get? b=some u) (heo:∃u,h'.get? e=some u)
  (new:ObjOk X.prog X.w (upd H x o) h' x o):Inv X pins σ (upd H x o) { s with heap:=h',toks:=t' }:=I.un (Un.write mu he k heo) (I.hok.write mu he k heo new)
theorem Inv.pins_of {pins':List (Addr×Obj)} (I:Inv X pins σ H s) (h:∀p∈pins',s.heap.get? p.1=some p.2/\H p.1=none/\p.1≠X.env.locals/\p.1∉X.fs/\∀v,p.2.data≠.cell v):Inv X pins' σ H s:=
 ⟨I.ok,I.os,I.bare,I.base,I.loc,I.cell,I.free,I.freeC,fun p hp=>(u4H.mp hp).elim (fun z=>I.pin p (u5w _ z)) (h p),I.hok,I.len⟩
theorem z3H {N:List Str} (hN:N.Nodup) {i j:Nat} {x:Str} (a:N[i]?=some x) (b:N[j]?=some x):i=j:=by
 obtain⟨h1,e1⟩:=u4K.mp a;obtain⟨h2,e2⟩:=u4K.mp b;exact (List.getElem_inj hN).mp (e1.trans e2.symm)
theorem z4D {M:Model} {A:Around} {E:Value->Shared->Prop} {i:Nat} {x:Str} {v:V} {u:Value} {Q:Unit->Shared->Prop} (I:Inv X pins σ H s) (hN:X.N.Nodup) (hi:X.N[i]?=some x) (hx:Loc X.env.scope x) (r:RelV v u)
  (h:∀s',Inv X pins (σ.set i (some v)) H s'->(∃a,u5x a s.heap s'.heap/\(a=X.env.locals∨X.env.cells.lookup x=some a))->Q () s') (hf:X.fn x=true∨X.env.scope.names.lookup x=some .local:=by first|exact .inl rfl|exact .inr rfl|assumption):wpAny M A (storeName X.env x u) Q E s:=by
 obtain⟨m,hn,hl⟩:=id I.loc;have hcls:(X.env.scope.kind == .class || (X.env.scope.kind == .module && X.env.locals != X.env.globals))=false:=by rw[I.ok.kind];rfl
 have hiσ:i<σ.length:=by rw[I.len];exact (u4K.mp hi).1
 have cne:=I.cne;have tracked:∀ {a:Addr} {h':Heap},(∃o,s.heap.get? a=some o/\H a=none)->u5x a s.heap h'->HOk X.prog X.w H h':=fun {a h'} ha hs b ob e=>by
  obtain⟨_,_,hfree⟩:=ha;refine (I.hok b ob e).stay (fun c w' hc q=>(hs.2 c ?_).trans q) (fun _ q=>q) fun _ _ q=>q;rintro rfl;rcases hc with rfl|hc
  ·rw[hfree] at e;cases e
  ·rw[hfree] at hc;cases hc
 rcases hx with hk|hk
 ·refine wpAny_storeName_local hk hn (fun h' hn' hs=>?_) hcls;obtain⟨oL,_,_,hoL,_⟩:=id hn;refine h _ ⟨I.ok,I.os,I.bare,⟨fun b o e n hb hx=>?_,fun b o e n hb hx=>?_,I.base.free,fun b o e hx=>?_,I.base.tups,I.base.frzs,I.base.tbls⟩,⟨_,hn',fun j y v' e1 e2 e3=>?_⟩,fun y c e=>?_,I.free,I.freeC,fun p hp=>?_,tracked ⟨oL,hoL,I.free⟩ hs,by simpa using I.len⟩ ⟨_,hs,.inl rfl⟩
  ·exact (hs.2 b (u4c (u4X (u4D e) I.ok.above))).trans (I.base.keep b o e n hb hx)
  ·obtain⟨sl,e1⟩:=I.base.slot b o e n hb hx;exact⟨sl,(hs.2 b (u4c (u4X (u4D e) I.ok.above))).trans e1⟩
  ·obtain⟨o',e1⟩:=I.base.there b o e hx;exact⟨o',(hs.2 b (u4c (u4X (u4D e) I.ok.above))).trans e1⟩
  ·by_cases hj:j=i
   ·subst hj;rw[hi] at e1;cases e1;rw[List.getElem?_set_self hiσ] at e2;cases e2;exact⟨u,r,.inl ⟨hk,by simp⟩⟩
   ·rw[List.getElem?_set_ne (Ne.symm hj)] at e2;obtain⟨u',r',q⟩:=hl j y v' e1 e2 e3;refine⟨u',r',?_⟩;rcases q with⟨k,e⟩|⟨k,c,e,z⟩
    ·refine .inl ⟨k,?_⟩;have:y≠x:=fun e=>hj (z3H hN e1 (e▸hi));simp [this,e]
    ·exact .inr ⟨k,c,e,z.sameBut hs (cne y c e)⟩
  ·obtain⟨w',z⟩:=I.cell y c e;exact⟨w',z.sameBut hs (cne y c e)⟩
  ·obtain⟨e,n,ne,nf,d⟩:=I.pin p hp;exact⟨(hs.2 p.1 ne).trans e,n,ne,nf,d⟩
 ·have hfn:X.fn x=true:=by
   rcases hf with z|z
   ·exact z
   ·rw[z] at hk;cases hk
  obtain⟨c,hc⟩:=I.ok.has x (.inl hk);obtain⟨w',z⟩:=I.cell x c hc;refine wpAny_storeName_cell I.ok.kind hk hc z (fun h' hc' hs=>?_);obtain⟨oc,hoc,hocd⟩:=id z;refine h { s with heap:=h' } ⟨I.ok,I.os,I.bare,⟨fun b o e n hb hx=>?_,fun b o e n hb hx=>?_,I.base.free,fun b o e hx=>?_,I.base.tups,I.base.frzs,I.base.tbls⟩,⟨m,hn.sameBut hs (Ne.symm (cne x c hc)),fun j y v' e1 e2 e3=>?_⟩,fun y c' e=>?_,I.free,I.freeC,fun p hp=>?_,tracked ⟨oc,hoc,I.freeC x c hc⟩ hs,by simpa using I.len⟩ ⟨c,hs,.inr hc⟩
  ·exact (hs.2 b (u4c (u4X (u4D e) (I.ok.cab x c hfn hc)))).trans (I.base.keep b o e n hb hx)
  ·obtain⟨sl,e1⟩:=I.base.slot b o e n hb hx;exact⟨sl,(hs.2 b (u4c (u4X (u4D e) (I.ok.cab x c hfn hc)))).trans e1⟩
  ·obtain⟨o',e1⟩:=I.base.there b o e hx;exact⟨o',(hs.2 b (u4c (u4X (u4D e) (I.ok.cab x c hfn hc)))).trans e1⟩
  ·by_cases hj:j=i
   ·subst hj;rw[hi] at e1;cases e1;rw[List.getElem?_set_self hiσ] at e2;cases e2;exact⟨u,r,.inr ⟨.inl hk,c,hc,hc'⟩⟩
   ·rw[List.getElem?_set_ne (Ne.symm hj)] at e2;obtain⟨u',r',q⟩:=hl j y v' e1 e2 e3;refine⟨u',r',?_⟩;rcases q with q|⟨k,c',e,z'⟩
    ·exact .inl q
    ·refine .inr ⟨k,c',e,z'.sameBut hs ?_⟩;rintro rfl;exact hj (z3H hN e1 (I.ok.inj _ _ _ e hc▸hi))
  ·by_cases hcc:c'=c
   ·subst hcc;exact⟨_,hc'⟩
   ·obtain⟨w2,z2⟩:=I.cell y c' e;exact⟨w2,z2.sameBut hs hcc⟩
  ·obtain⟨e,n,ne,nf,d⟩:=I.pin p hp;refine⟨(hs.2 p.1 ?_).trans e,n,ne,nf,d⟩;intro q;rw[q,hoc] at e;have q':oc=p.2:=u5Y e;exact d w' (by rw[←q'];exact hocd)
theorem qO {M:Model} {A:Around} {E:Value->Shared->Prop} {i:Nat} {x:Str} {v:V} {u:Value} {Q:Unit->Shared->Prop} (I:Inv X pins σ H s) (hN:X.N.Nodup) (hi:X.N[i]?=some x) (hx:Loc X.env.scope x) (r:RelV v u)
  (h:∀s',Inv X pins (σ.set i (some v)) H s'->Q () s') (hf:X.fn x=true∨X.env.scope.names.lookup x=some .local:=by first|exact .inl rfl|exact .inr rfl|assumption):wpAny M A (storeName X.env x u) Q E s:=
 z4D I hN hi hx r (fun s' I' _=>h s' I') hf
theorem Inv.call' {s':Shared} {ch:List Addr} (I:Inv X pins σ H s) (ho:s'.os=s.os) (u:Un (frs X.stack) ch H H' s.heap s'.heap) (hok:HOk X.prog X.w H' s'.heap) (hg:AllBare s'.gens)
  (hch:∀b∈ch,(b∈X.ex∨X.s₀.heap.objs.size<=b)/\b≠X.env.locals/\(∀x c,X.env.cells.lookup x=some c->c≠b)/\∀p∈X.pn++pins,p.1≠b):Inv X pins σ H' s':=by
 obtain⟨h',g',d',t',o'⟩:=s';have e:o'=s.os:=ho;subst e;exact I.call (g':=g') (t':=t') (d':=d') u hok hg hch
end
noncomputable abbrev XK:=Value->Option Addr->Hp->Prop
noncomputable abbrev St:=List (Option V)
noncomputable abbrev VK:=V->Hp->Prop
noncomputable abbrev TE:=St->Hp->VK->Prop
noncomputable abbrev TT:=St->Hp->(Bool->Hp->Prop)->Prop
noncomputable abbrev TA:=St->Hp->(List V->Hp->Prop)->Prop
structure Ends where
 nx:St->Hp->Prop
 rt:VK
 bk:St->Hp->Prop:=fun _ _=>False
 ct:St->Hp->Prop:=fun _ _=>False
noncomputable abbrev TS:=Ends->St->Hp->Prop
noncomputable def EP (X:Cx) (pins:List (Addr×Obj)) (σ:St) (Q:VK) (u:Value) (s':Shared):Prop:=∃v H',Inv X pins σ H' s'/\RelV v u/\Q v H'
noncomputable def TP (X:Cx) (pins:List (Addr×Obj)) (σ:St) (Q:Bool->Hp->Prop) (b:Bool) (s':Shared):Prop:=∃H',Inv X pins σ H' s'/\Q b H'
noncomputable def AP (X:Cx) (pins:List (Addr×Obj)) (σ:St) (Q:List V->Hp->Prop) (us:List Value) (s':Shared):Prop:=∃vs H',Inv X pins σ H' s'/\Vals vs us/\Q vs H'
noncomputable def SP (X:Cx) (pins:List (Addr×Obj)) (D:Ends) (f:Flow) (s':Shared):Prop:=
 match f with
 | .next=>∃σ' H',Inv X pins σ' H' s'/\D.nx σ' H'
 | .brk=>∃σ' H',Inv X pins σ' H' s'/\D.bk σ' H'
 | .cont=>∃σ' H',Inv X pins σ' H' s'/\D.ct σ' H'
 | .ret u=>∃v σ' H',Inv X pins σ' H' s'/\RelV v u/\D.rt v H'
noncomputable def PE (X:Cx) (e:Expr) (t:TE):Prop:=
 ∀(pins:List (Addr×Obj)) (s:Shared) (σ:St) (H:Hp) (Q:VK),Inv X pins σ H s->t σ H Q->wpAny (model X.prog X.w) X.A (eval e X.env) (EP X pins σ Q) X.xe s
noncomputable def PT (X:Cx) (e:Expr) (t:TT):Prop:=
 ∀(pins:List (Addr×Obj)) (s:Shared) (σ:St) (H:Hp) (Q:Bool->Hp->Prop),Inv X pins σ H s->t σ H Q->wpAny (model X.prog X.w) X.A (isTrue e X.env (eval e X.env)) (TP X pins σ Q) X.xe s
noncomputable def PW (X:Cx) (e:Expr) (t:TT):Prop:=
 ∀(whole:Sem Value) (pins:List (Addr×Obj)) (s:Shared) (σ:St) (H:Hp) (Q:Bool->Hp->Prop),Inv X pins σ H s->t σ H Q->wpAny (model X.prog X.w) X.A (isTrue e X.env whole) (TP X pins σ Q) X.xe s
theorem PW.pt {X:Cx} {e:Expr} {t:TT} (h:PW X e t):PT X e t:=h _
noncomputable def PA (X:Cx) (es:List Expr) (t:TA):Prop:=
 ∀(pos:Pos) (pins:List (Addr×Obj)) (s:Shared) (σ:St) (H:Hp) (Q:List V->Hp->Prop),Inv X pins σ H s->t σ H Q->wpAny (model X.prog X.w) X.A (spliced (backTo pos (u4W es X.env))) (AP X pins σ Q) X.xe s
noncomputable def PS (X:Cx) (st:Stmt) (t:TS):Prop:=
 ∀(pins:List (Addr×Obj)) (s:Shared) (σ:St) (H:Hp) (D:Ends),Inv X pins σ H s->t D σ H->wpAny (model X.prog X.w) X.A (exec st X.env) (SP X pins D) X.xe s
noncomputable def PSs (X:Cx) (st:List Stmt) (t:TS):Prop:=
 ∀(pins:List (Addr×Obj)) (s:Shared) (σ:St) (H:Hp) (D:Ends),Inv X pins σ H s->t D σ H->wpAny (model X.prog X.w) X.A (execs st X.env) (SP X pins D) X.xe s
theorem thn {α:Type} {t:Sem α} {Q Q':α->Shared->Prop} {M:Model} {A:Around} {E:Value->Shared->Prop} {s:Shared} (h:wpAny M A t Q E s) (hQ:∀a s,Q a s->Q' a s):wpAny M A t Q' E s:=u5E h hQ fun _ _ x=>x
section
variable {X:Cx}
noncomputable def z6r (i:Nat):TE:=fun σ H Q=>∃v,σ[i]?=some (some v)/\Q v H
noncomputable def tC (v:V):TE:=fun _ H Q=>Q v H
theorem y5x {i:Nat} {x:Str} {pos:Pos} (hN:X.N[i]?=some x) (hv:Vis X.env.scope x) (hd:(x == ("__debug__" : Str))=false:=by decide) (hcd:(x == ("__classdict__" : Str))=false:=by decide):PE X (.Name x pos) (z6r i):=by
 intro pins s σ H Q I h;obtain⟨v,e,h⟩:=h;obtain⟨m,hn,hl⟩:=I.loc;obtain⟨u,r,l⟩:=hl i x v hN e hv;have fin:EP X pins σ Q u s:=⟨v,H,I,r,h⟩
 rcases l with⟨hk,hm⟩|⟨hk,c,hc,hcell⟩
 ·exact wpAny_Name (wpAny_loadName_local I.ok.kind hk hn hm fin) hd
 ·rcases hk with hk|hk
  ·exact wpAny_Name (wpAny_loadName_cell I.ok.kind hk hc hcell fin) hd
  ·exact wpAny_Name (wpAny_loadName_free I.ok.kind hk hc hcell fin hcd) hd
theorem zG {i j pos}:PE X (.Constant (.int i) j pos) (tC (.int i)):=fun _ _ _ H _ I h=>wpAny_Constant_int ⟨.int i,H,I.tok _,⟨_,rfl⟩,h⟩
theorem qe {b j pos}:PE X (.Constant (.bool b) j pos) (tC (.bl b)):=fun _ _ _ H _ I h=>Constant_bool ⟨.bl b,H,I,rfl,h⟩
theorem yI {j pos}:PE X (.Constant .none j pos) (tC .non):=fun _ _ _ H _ I h=>Constant_none ⟨.non,H,I,rfl,h⟩
theorem zM {x j pos}:PE X (.Constant (.str x) j pos) (tC (.str x)):=fun _ _ _ H _ I h=>Calls.Constant_str ⟨.str x,H,I.tok _,⟨_,rfl⟩,h⟩
noncomputable def Gl (X:Cx) (x:Str):Prop:=X.env.kindOf x=some .globalImplicit
theorem kH {E:Value->Shared->Prop} {pins:List (Addr×Obj)} {s:Shared} {σ:St} {H:Hp} {x:Str} {u:Value} {pos:Pos} {Q:Value->Shared->Prop} (I:Inv X pins σ H s) (hg:Gl X x) (hm:X.mg x=some u) (h:Q u s)
  (hd:(x == ("__debug__" : Str))=false:=by decide):wpAny (model X.prog X.w) X.A (eval (.Name x pos) X.env) Q E s:=
 Calls.Name_function_global I.ok.kind hg (Calls.loadGlobal_global (by rw[I.ok.glob];exact I.mod.glob.keeps I.bk) hm h) hd
theorem ki {E:Value->Shared->Prop} {pins:List (Addr×Obj)} {s:Shared} {σ:St} {H:Hp} {x:Str} {u:Value} {pos:Pos} {Q:Value->Shared->Prop} (I:Inv X pins σ H s) (hg:Gl X x) (hm:X.mg x=none) (hv:bootBuiltins x=some u) (h:Q u s)
  (hn:x≠ "__name__" :=by decide) (hd:(x == ("__debug__" : Str))=false:=by decide):wpAny (model X.prog X.w) X.A (eval (.Name x pos) X.env) Q E s:=by
 obtain⟨mb,h1,h2⟩:=I.mod.blt;exact Calls.Name_function_global I.ok.kind hg (Calls.loadGlobal_builtin (by rw[I.ok.glob];exact I.mod.glob.keeps I.bk) hm (by rw[I.ok.blt];exact h1.keeps I.bk) ((h2 x hn).trans hv) h) hd
theorem xN {x:Str} {v:V} {u:Value} {pos:Pos} (hg:Gl X x) (hm:X.mg x=some u) (r:RelV v u) (hd:(x == ("__debug__" : Str))=false:=by decide):PE X (.Name x pos) (tC v):=
 fun _ _ _ H _ I h=>kH I hg hm ⟨v,H,I,r,h⟩ hd
theorem z3D {x:Str} {v:V} {u:Value} {pos:Pos} (hg:Gl X x) (hm:X.mg x=none) (hv:bootBuiltins x=some u) (r:RelV v u) (hn:x≠ "__name__" :=by decide) (hd:(x == ("__debug__" : Str))=false:=by decide):PE X (.Name x pos) (tC v):=
 fun _ _ _ H _ I h=>ki I hg hm hv ⟨v,H,I,r,h⟩ hn hd
variable {a b:Expr} {ta tb:TE} {pos:Pos}
noncomputable def PC (X:Cx) (op:CmpOp) (a b:Expr) (t:TE):Prop:=
 ∀(pins:List (Addr×Obj)) (s:Shared) (σ:St) (H:Hp) (Q:VK),Inv X pins σ H s->t σ H Q->
  wpAny (model X.prog X.w) X.A (eval a X.env) (fun v s₁=>wpAny (model X.prog X.w) X.A (eval b X.env) (fun u s₂=>wpAny (model X.prog X.w) X.A (u6Q op v u) (EP X pins σ Q) X.xe s₂) X.xe s₁) X.xe s
theorem y2Z (b:Expr) {op:CmpOp} (h:op≠.In) (h2:op≠.NotIn):behindInMarks op b=false:=by
 have e1:(op == CmpOp.In)=false:=by cases op <;> first|rfl|exact absurd rfl h
 have e2:(op == CmpOp.NotIn)=false:=by cases op <;> first|rfl|exact absurd rfl h2
 cases b <;> simp [behindInMarks,e1,e2]
noncomputable def tB (t:TE):TT:=fun σ H Q=>t σ H fun x H1=>∃c,x=.bl c/\Q c H1
theorem y5r {op:CmpOp} {t:TE} (h:PC X op a b t) (h1:behindInMarks op b=false:=by first|exact y2Z _ (by decide) (by decide)|rfl):PT X (.Compare a [op] [b] pos) (tB t):=by
 intro pins s σ H Q I hw;refine wpAny_isTrue_Compare1 (thn (h pins s σ H _ I hw) fun v s1 h1=>thn h1 fun u s2 h2=>thn h2 fun c s3 ⟨x,H1,I1,r1,q1⟩=>?_) h1;obtain⟨d,rfl,q⟩:=q1;cases r1;exact u6Y ⟨H1,I1,q⟩
theorem yE {e:Expr} {t:TE} (h:PE X e t) (he:∀whole,isTrue e X.env whole=(do let v ←whole;standAt e.pos;holding [v] (truthy v)):=by intro _;rfl):PT X e (tB t):=by
 intro pins s σ H Q I hw;refine isTrue_plain (thn (h pins s σ H _ I hw) fun v s1 ⟨x,H1,I1,r1,q1⟩=>?_) (he _);obtain⟨d,rfl,q⟩:=q1;cases r1;exact u6Y ⟨H1,I1,q⟩
variable {tA tB':TT} {rest:List Expr}
noncomputable def y7P (t u:TT):TT:=fun σ H Q=>t σ H fun c H1=>if c=true then u σ H1 Q else Q false H1
noncomputable def tOr (t u:TT):TT:=fun σ H Q=>t σ H fun c H1=>if c=true then Q true H1 else u σ H1 Q
noncomputable def y7I (t:TT):TT:=fun σ H Q=>t σ H fun c H1=>Q (!c) H1
theorem z0b (ha:PT X a tA):PW X (.BoolOp .And [a] pos) tA:=by
 intro wh pins s σ H Q I h;refine isTrue_and (thn (ha pins s σ H Q I h) fun c s1 e=>?_);cases c with
 | true=>exact isTrue_and_nil e
 | false=>exact e
theorem vB (ha:PT X a tA):PW X (.BoolOp .Or [a] pos) tA:=by
 intro wh pins s σ H Q I h;refine isTrue_or (thn (ha pins s σ H Q I h) fun c s1 e=>?_);cases c with
 | false=>exact isTrue_or_nil e
 | true=>exact e
theorem z4b (ha:PT X a tA) (hb:PW X (.BoolOp .And (b::rest) pos) tB'):PW X (.BoolOp .And (a::b::rest) pos) (y7P tA tB'):=by
 intro wh pins s σ H Q I h;refine isTrue_and (thn (ha pins s σ H _ I h) fun c s1 ⟨H1,I1,q1⟩=>?_);cases c with
 | true=>exact hb wh pins s1 σ H1 Q I1 q1
 | false=>exact⟨H1,I1,q1⟩
theorem z0a (ha:PT X a tA) (hb:PW X (.BoolOp .Or (b::rest) pos) tB'):PW X (.BoolOp .Or (a::b::rest) pos) (tOr tA tB'):=by
 intro wh pins s σ H Q I h;refine isTrue_or (thn (ha pins s σ H _ I h) fun c s1 ⟨H1,I1,q1⟩=>?_);cases c with
 | true=>exact⟨H1,I1,q1⟩
 | false=>exact hb wh pins s1 σ H1 Q I1 q1
theorem xb (ha:PT X a tA):PT X (.UnaryOp .Not a pos) (y7I tA):=by
 intro pins s σ H Q I h;exact isTrue_not (ha pins s σ H (fun c H1=>Q (!c) H1) I h)
noncomputable def y5g (ta tb:TE):TE:=fun σ H Q=>ta σ H fun x H1=>∃c,x=.bl c/\if c=true then tb σ H1 Q else Q (.bl false) H1
noncomputable def y7g (ta tb:TE):TE:=fun σ H Q=>ta σ H fun x H1=>∃c,x=.bl c/\if c=true then Q (.bl true) H1 else tb σ H1 Q
noncomputable def y6h (ta:TE):TE:=fun σ H Q=>ta σ H fun x H1=>∃c,x=.bl c/\Q (.bl (!c)) H1
theorem z0e {op} {t:TE} (h:PE X a t):PE X (.BoolOp op [a] pos) t:=fun pins s σ H Q I hw=>BoolOp_one (h pins s σ H Q I hw)
theorem vE (ha:PE X a ta) (hb:PE X (.BoolOp .And (b::rest) pos) tb):PE X (.BoolOp .And (a::b::rest) pos) (y5g ta tb):=by
 intro pins s σ H Q I h;refine BoolOp_and (thn (ha pins s σ H _ I h) fun v s1 ⟨x,H1,I1,r1,q1⟩=>?_);obtain⟨c,rfl,q1⟩:=q1;cases r1;refine u6Y ?_;cases c with
 | true=>exact hb pins s1 σ H1 Q I1 q1
 | false=>exact⟨.bl false,H1,I1,rfl,q1⟩
noncomputable def tIf (t:TT) (ta tb:TE):TE:=fun σ H Q=>t σ H fun c H1=>if c=true then ta σ H1 Q else tb σ H1 Q
theorem z3B {c:Expr} (hc:PT X c tA) (ha:PE X a ta) (hb:PE X b tb):PE X (.IfExp c a b pos) (tIf tA ta tb):=by
 intro pins s σ H Q I h;refine wpAny_IfExp (thn (hc pins s σ H _ I h) fun d s1 ⟨H1,I1,q1⟩=>?_);cases d with
 | true=>exact ha pins s1 σ H1 Q I1 q1
 | false=>exact hb pins s1 σ H1 Q I1 q1
end
noncomputable def SqL (K:u3q) (H:Hp) (a:Addr) (xs:List V):Prop:=
 Rd H a (.lst xs)∨
  ∃(o:Obj) (its:Array Value) (n:Nat),K.lookup a=some o/\o.cls=.type "list" /\o.dict=none/\o.data=.seq its n/\its.size<=u4L/\Vals xs its.toList
noncomputable def SqT (K:u3q) (H:Hp) (a:Addr) (xs:List V):Prop:=
 Rd H a (.tup xs)∨
  ∃(o:Obj) (its:Array Value) (n:Nat),K.lookup a=some o/\o.cls=.type "tuple" /\o.data=.seq its n/\its.size<=u4L/\Vals xs its.toList
noncomputable def y8B:Value->Option V
 | .none=>some .non
 | .bool b=>some (.bl b)
 | .int i _=>some (.int i)
 | .str x _=>some (.str x)
 | .bytes b _=>some (.byt b)
 | .float b _=>some (.flt b)
 | .ref a=>some (.ref a)
 | .type n=>some (.ty n)
 | _=>none
theorem RelV.abs {x:V} {u:Value} (r:RelV x u):y8B u=some x:=by
 cases x with
 | non=>cases r;rfl
 | bl _=>cases r;rfl
 | int _=>obtain⟨t,rfl⟩:=r;rfl
 | str _=>obtain⟨t,rfl⟩:=r;rfl
 | byt _=>obtain⟨t,rfl⟩:=r;rfl
 | flt _=>obtain⟨t,rfl⟩:=r;rfl
 | ref _=>cases r;rfl
 | ty _=>cases r;rfl
theorem RelV.inj {x y:V} {u:Value} (r:RelV x u) (q:RelV y u):x=y:=u5Y (r.abs.symm.trans q.abs)
theorem Vals.inj:∀ {xs ys:List V} {us:List Value},Vals xs us->Vals ys us->xs=ys
 | _,_,_,.nil,.nil=>rfl
 | _,_,_,.cons r t,.cons r' t'=>by rw[r.inj r',Vals.inj t t']
section
variable {X:Cx} {pins:List (Addr×Obj)} {σ:St} {H:Hp} {s:Shared} {a:Addr} {xs ys:List V}
theorem SqL.of {K:u3q} (h:H a=some (.lst xs)):SqL K H a xs:=.inl (.inl h)
theorem SqT.of {K:u3q} (h:H a=some (.tup xs)):SqT K H a xs:=.inl (.inl h)
theorem Inv.list (I:Inv X pins σ H s) (h:SqL X.K H a xs):∃its:List Value,Vals xs its/\PlainL s.heap a its.toArray/\xs.length<=u4L:=by
 rcases h with h|⟨o,its,n,hk,hc,hd,hs,hz,r⟩
 ·obtain⟨z,its,n,r,e⟩:=h.ok I.hok;exact⟨its,r,⟨_,n,e,rfl,rfl,rfl⟩,z⟩
 ·refine⟨its.toList,r,⟨o,n,I.kIn a o hk,hc,hd,by simpa using hs⟩,?_⟩;have e:=r.length;simp only [u4P] at e;omega
theorem Inv.tuple (I:Inv X pins σ H s) (h:SqT X.K H a xs):∃its:List Value,Vals xs its/\IsTup s.heap a its.toArray/\xs.length<=u4L:=by
 rcases h with h|⟨o,its,n,hk,hc,hs,hz,r⟩
 ·obtain⟨z,its,r,p⟩:=h.ok I.hok;exact⟨its,r,p,z⟩
 ·refine⟨its.toList,r,⟨o,I.kIn a o hk,hc,n,by simpa using hs⟩,?_⟩;have e:=r.length;simp only [u4P] at e;omega
theorem Inv.list_inj (I:Inv X pins σ H s) (h:SqL X.K H a xs) (h':SqL X.K H a ys):xs=ys:=by
 obtain⟨its,r,⟨o,n,e,_,_,d⟩,_⟩:=I.list h;obtain⟨its',r',⟨o',n',e',_,_,d'⟩,_⟩:=I.list h';rw[e] at e';cases e';rw[d] at d';injection d' with d1 _;have:its=its':=by simpa using congrArg Array.toList d1
 subst this;exact r.inj r'
theorem Inv.tuple_inj (I:Inv X pins σ H s) (h:SqT X.K H a xs) (h':SqT X.K H a ys):xs=ys:=by
 obtain⟨its,r,⟨o,e,_,n,d⟩,_⟩:=I.tuple h;obtain⟨its',r',⟨o',e',_,n',d'⟩,_⟩:=I.tuple h';rw[e] at e';cases e';rw[d] at d';injection d' with d1 _;have:its=its':=by simpa using congrArg Array.toList d1
 subst this;exact r.inj r'
end
noncomputable abbrev Cx.wish (X:Cx) (E:Value->Shared->Prop):Cx:={ X with xe:=E }
noncomputable abbrev Cx.nox (X:Cx):Cx:=X.wish fun _ _=>False
theorem Cx.Ok.wish {X:Cx} (ok:X.Ok) (E:Value->Shared->Prop):(X.wish E).Ok:=
 ⟨ok.mod,ok.kind,ok.glob,ok.blt,ok.above,ok.inj,ok.has,ok.cab,ok.hd,ok.frames,ok.stk,ok.exf,ok.bs,ok.bsz,ok.noex,ok.exfs,ok.funs,ok.frf⟩
theorem Cx.Ok.unwish {X:Cx} {E:Value->Shared->Prop} (ok:(X.wish E).Ok):X.Ok:=
 ⟨ok.mod,ok.kind,ok.glob,ok.blt,ok.above,ok.inj,ok.has,ok.cab,ok.hd,ok.frames,ok.stk,ok.exf,ok.bs,ok.bsz,ok.noex,ok.exfs,ok.funs,ok.frf⟩
section
variable {X:Cx} {pins:List (Addr×Obj)} {σ:St} {H:Hp} {s:Shared} {E:Value->Shared->Prop}
theorem Inv.wish (I:Inv X pins σ H s) (E:Value->Shared->Prop):Inv (X.wish E) pins σ H s:=⟨I.ok.wish E,I.os,I.bare,I.base,I.loc,I.cell,I.free,I.freeC,I.pin,I.hok,I.len⟩
theorem Inv.unwish (I:Inv (X.wish E) pins σ H s):Inv X pins σ H s:=⟨I.ok.unwish,I.os,I.bare,I.base,I.loc,I.cell,I.free,I.freeC,I.pin,I.hok,I.len⟩
theorem SP.unwish {D:Ends} {f:Flow} {s':Shared} (h:SP (X.wish E) pins D f s'):SP X pins D f s':=by
 cases f with
 | next=>obtain⟨σ',H',I,q⟩:=h;exact⟨σ',H',I.unwish,q⟩
 | brk=>obtain⟨σ',H',I,q⟩:=h;exact⟨σ',H',I.unwish,q⟩
 | cont=>obtain⟨σ',H',I,q⟩:=h;exact⟨σ',H',I.unwish,q⟩
 | ret u=>obtain⟨v,σ',H',I,r,q⟩:=h;exact⟨v,σ',H',I.unwish,r,q⟩
theorem PSs.nox {st:List Stmt} {t:TS} (h:PSs X.nox st t):PSs X st t:=fun pins s σ H D I hw=>
 u5E (h pins s σ H D (I.wish _) hw) (fun _ _ q=>q.unwish) fun _ _ z=>u5c z
end
section
variable {X:Cx} {st:Stmt} {rest:List Stmt} {t u:TS} {e:Expr} {te:TE} {pos:Pos}
noncomputable def y5X:TS:=fun D σ H=>D.nx σ H
noncomputable def y7F (t u:TS):TS:=fun D σ H=>t { D with nx:=u D } σ H
theorem zP:PSs X [] y5X:=fun _ _ σ H _ I h=>wpAny_execs_nil ⟨σ,H,I,h⟩
theorem zC (h1:PS X st t) (h2:PSs X rest u):PSs X (st::rest) (y7F t u):=by
 intro pins s σ H D I h;refine wpAny_execs_cons (thn (h1 pins s σ H { D with nx:=u D } I h) fun f s1 q=>?_);cases f with
 | next=>
  obtain⟨σ',H',I',q⟩:=q;exact h2 pins s1 σ' H' D I' q
 | ret v=>exact q
 | brk=>exact q
 | cont=>exact q
theorem zF (h1:PS X st t):PSs X [st] t:=by
 intro pins s σ H D I h;refine wpAny_execs_cons (thn (h1 pins s σ H D I h) fun f s1 q=>?_);cases f with
 | next=>exact wpAny_execs_nil q
 | ret v=>exact q
 | brk=>exact q
 | cont=>exact q
noncomputable def y5e:TS:=fun D σ H=>D.bk σ H
noncomputable def y6j:TS:=fun D σ H=>D.ct σ H
theorem Inv.quiet {pins:List (Addr×Obj)} {σ:St} {H:Hp} {s:Shared} (I:Inv X pins σ H s):interactive X.env=false:=by simp [interactive,I.ok.kind]
noncomputable def y5b (te:TE):TS:=fun D σ H=>te σ H fun _ H1=>D.nx σ H1
theorem yy (he:PE X e te) (hs:swapsWith e none pos.line X.env=pure false:=by rfl):PS X (.Expr e pos) (y5b te):=by
 intro pins s σ H D I h;exact wpAny_Expr_any (thn (he pins s σ H _ I h) fun v s1 ⟨x,H1,I1,r1,q1⟩=>⟨σ,H1,I1,q1⟩) I.quiet hs
noncomputable def y7H (te:TE):TS:=fun D σ H=>te σ H D.rt
theorem zL (he:PE X e te):PS X (.Return (some e) pos) (y7H te):=by
 intro pins s σ H D I h;exact wpAny_Return_some (thn (he pins s σ H _ I h) fun v s1 ⟨x,H1,I1,r1,q1⟩=>⟨x,σ,H1,I1,r1,q1⟩)
noncomputable def y6g:TS:=fun D _ H=>D.rt .non H
noncomputable def y7K (c:TT) (t u:TS):TS:=fun D σ H=>c σ H fun b H1=>if b=true then t D σ H1 else u D σ H1
theorem zh {c:Expr} {a b:List Stmt} {tc:TT} (hc:PT X c tc) (ha:PSs X a t) (hb:PSs X b u):PS X (.If c a b pos) (y7K tc t u):=by
 intro pins s σ H D I h;refine wpAny_If (thn (hc pins s σ H _ I h) fun d s1 ⟨H1,I1,q1⟩=>?_);cases d with
 | true=>exact ha pins s1 σ H1 D I1 q1
 | false=>exact hb pins s1 σ H1 D I1 q1
noncomputable def y5Y:TS:=fun _ _ _=>False
theorem yr:PS X st y5Y:=fun _ _ _ _ _ _ h=>h.elim
end
noncomputable abbrev TG:=V->St->Hp->(St->Hp->Prop)->Prop
noncomputable abbrev TGs:=List V->St->Hp->(St->Hp->Prop)->Prop
noncomputable def PG (X:Cx) (target:Expr) (t:TG):Prop:=
 ∀(pins:List (Addr×Obj)) (s:Shared) (σ:St) (H:Hp) (v:V) (u:Value) (Q:St->Hp->Prop),Inv X pins σ H s->RelV v u->t v σ H Q->
  wpAny (model X.prog X.w) X.A (assign target X.env u) (fun _ s'=>∃σ' H',Inv X pins σ' H' s'/\Q σ' H') X.xe s
noncomputable def PGs (X:Cx) (ts:List Expr) (t:TGs):Prop:=
 ∀(pins:List (Addr×Obj)) (s:Shared) (σ:St) (H:Hp) (vs:List V) (us:List Value) (Q:St->Hp->Prop),Inv X pins σ H s->Vals vs us->t vs σ H Q->
  wpAny (model X.prog X.w) X.A (assignInOrder ((assignEach ts X.env).map (·.2)) us) (fun _ s'=>∃σ' H',Inv X pins σ' H' s'/\Q σ' H') X.xe s
noncomputable abbrev y7Y:=V->V->V->Hp->(Hp->Prop)->Prop
noncomputable abbrev TIp:=V->V->Hp->VK->Prop
noncomputable def PIp (X:Cx) (op:Operator) (t:TIp):Prop:=
 ∀(pins:List (Addr×Obj)) (s:Shared) (σ:St) (H:Hp) (x y:V) (v u:Value) (Q:VK),Inv X pins σ H s->RelV x v->RelV y u->t x y H Q->
  wpAny (model X.prog X.w) X.A (inplaceOp op v u) (EP X pins σ Q) X.xe s
section
variable {X:Cx} {pos:Pos}
noncomputable def qf (i:Nat):TG:=fun v σ H Q=>Q (σ.set i (some v)) H
theorem zd {i:Nat} {x:Str} (hN:X.N.Nodup) (hi:X.N[i]?=some x) (hx:Loc X.env.scope x) (hf:X.fn x=true∨X.env.scope.names.lookup x=some .local:=by first|exact .inl rfl|exact .inr rfl|assumption):PG X (.Name x pos) (qf i):=by
 intro pins s σ H v u Q I r h;exact wpAny_assign_Name (qO I hN hi hx r (fun s' I'=>⟨_,H,I',h⟩) hf)
noncomputable def y6Z:TGs:=fun vs σ H Q=>vs=[]/\Q σ H
noncomputable def z5Q (t:TG) (u:TGs):TGs:=fun vs σ H Q=>∃v r,vs=v::r/\t v σ H fun σ' H'=>u r σ' H' Q
theorem jW:PGs X [] y6Z:=by
 intro pins s σ H vs us Q I r h;obtain⟨e,h⟩:=h;subst e;cases r;exact assignInOrder_nil ⟨σ,H,I,h⟩
theorem zq {e:Expr} {es:List Expr} {t:TG} {u:TGs} (h1:PG X e t) (h2:PGs X es u)
  (hs:(assignEach (e::es) X.env).map (·.2)=assign e X.env::(assignEach es X.env).map (·.2):=by rfl):PGs X (e::es) (z5Q t u):=by
 intro pins s σ H vs us Q I r h;obtain⟨v,vr,e1,h⟩:=h;subst e1;cases r with
 | cons r rr=>
  rw[hs];refine assignInOrder_cons (thn (h1 pins s σ H _ _ _ I r h) fun _ s1 ⟨σ1,H1,I1,q1⟩=>?_);exact h2 pins s1 σ1 H1 _ _ Q I1 rr q1
noncomputable def y6y (K:u3q) (n:Nat) (t:TGs):TG:=fun v σ H Q=>∃a xs,v=.ref a/\SqT K H a xs/\xs.length=n/\t xs σ H Q
theorem vD {es:List Expr} {k:Nat} {t:TGs} {n:Nat} (hc:X.calm=true) (h:PGs X es t)
  (hn:(assignEach es X.env).length=n:=by rfl) (hst:(assignEach es X.env).findIdx? (·.1)=none:=by rfl):PG X (.Tuple es k pos) (y6y X.K n t):=by
 intro pins s σ H v u Q I r hw;obtain⟨a,xs,e1,hq,hl,hw⟩:=hw;subst e1;cases r;obtain⟨its,rv,ht,hz⟩:=I.tuple hq;refine assign_Tuple_tuple (I.ok.hd hc) ht (by simp [hn,←hl,rv.length]) hst fun h' hx=>?_;have I1:Inv X pins σ H { s with heap:=h' }:=I.kept (t':=s.toks) fun b o e=>hx b o (u4c (u4D e)) e;exact h pins _ σ H xs _ Q I1 (by simpa using rv) hw
noncomputable def y7y (to ti:TE) (t:y7Y):TG:=fun v σ H Q=>to σ H fun o H1=>ti σ H1 fun i H2=>t o i v H2 fun H3=>Q σ H3
noncomputable def y5f (te:TE) (g:TG):TS:=fun D σ H=>te σ H fun x H1=>g x σ H1 D.nx
theorem y3a {tg e:Expr} {te:TE} {g:TG} (he:PE X e te) (hg:PG X tg g) (hs:swapsWithSole [tg] e pos.line X.env=pure false:=by rfl) (hw:swappedStores [tg] e X.env=pure none:=by rfl)
  (h1:(assignEach [tg] X.env).map (·.2)=[assign tg X.env]:=by rfl):PS X (.Assign [tg] e pos) (y5f te g):=by
 intro pins s σ H D I h;refine wpAny_Assign_stores (thn (he pins s σ H _ I h) fun v s1 ⟨x,H1,I1,r1,q1⟩=>?_) hs hw;rw[h1];exact thn (hg pins s1 σ H1 x v _ I1 r1 q1) fun _ s2 q=>q
theorem zQ {i:Nat} {x:Str} {e:Expr} {te:TE} {pos':Pos} (hN:X.N.Nodup) (hi:X.N[i]?=some x) (hx:Loc X.env.scope x) (he:PE X e te) (hs:swapsWith e (some (.Name x pos')) pos.line X.env=pure false:=by rfl) (hf:X.fn x=true∨X.env.scope.names.lookup x=some .local:=by first|exact .inl rfl|exact .inr rfl|assumption) :
  PS X (.Assign [.Name x pos'] e pos) (y5f te (qf i)):=by
 intro pins s σ H D I h;refine wpAny_Assign_Name (thn (he pins s σ H _ I h) fun v s1 ⟨y,H1,I1,r1,q1⟩=>?_) hs;exact qO I1 hN hi hx r1 (fun s2 I2=>⟨_,H1,I2,q1⟩) hf
noncomputable def y7f (i j:Nat) (ta:TA):TS:=fun D σ H=>ta σ H fun vs H1=>∃v w,vs=[v,w]/\D.nx ((σ.set i (some v)).set j (some w)) H1
noncomputable def y7O (i:Nat) (te:TE) (ti:TIp):TS:=fun D σ H=>∃x,σ[i]?=some (some x)/\te σ H fun y H1=>ti x y H1 fun z H2=>D.nx (σ.set i (some z)) H2
theorem y5s {i:Nat} {x:Str} {e:Expr} {te:TE} {op:Operator} {ti:TIp} {pos':Pos} (hN:X.N.Nodup) (hi:X.N[i]?=some x) (hx:Loc X.env.scope x) (he:PE X e te) (ho:PIp X op ti) (hf:X.fn x=true∨X.env.scope.names.lookup x=some .local:=by first|exact .inl rfl|exact .inr rfl|assumption) :
  PS X (.AugAssign (.Name x pos') op e pos) (y7O i te ti):=by
 intro pins s σ H D I h;obtain⟨v,e1,h⟩:=h;obtain⟨m,hn,hl⟩:=I.loc;have vis:Vis X.env.scope x:=by rcases hx with k|k;exact .inl k;exact .inr (.inl k)
 obtain⟨u,r,l⟩:=hl i x v hi e1 vis;refine wpAny_AugAssign_Name ?_;have go:wpAny (model X.prog X.w) X.A (eval e X.env) (fun w s₂=>wpAny (model X.prog X.w) X.A (inplaceOp op u w) (fun r s₃=>wpAny (model X.prog X.w) X.A (storeName X.env x r) (fun _=>SP X pins D .next) X.xe s₃) X.xe s₂) X.xe s:=by
  refine thn (he pins s σ H _ I h) fun w s1 ⟨y,H1,I1,r1,q1⟩=>?_;refine thn (ho pins s1 σ H1 v y u w _ I1 r r1 q1) fun z s2 ⟨zv,H2,I2,r2,q2⟩=>?_;exact qO I2 hN hi hx r2 (fun s3 I3=>⟨_,H2,I3,q2⟩) hf
 rcases l with⟨hk,hm⟩|⟨hk,c,hc,hcell⟩
 ·exact wpAny_loadName_local I.ok.kind hk hn hm go
 ·rcases hk with hk|hk
  ·exact wpAny_loadName_cell I.ok.kind hk hc hcell go
  ·rcases hx with k|k
   ·have:X.env.scope.names.lookup x=some .free:=hk;rw[k] at this;cases this
   ·have:X.env.scope.names.lookup x=some .free:=hk;rw[k] at this;cases this
noncomputable def ipI (f:Int->Int->Int):TIp:=fun x y H Q=>∃i j,x=.int i/\y=.int j/\Q (.int (f i j)) H
theorem y6L:PIp X .Add (ipI fun i j=>i+j):=by
 intro pins s σ H x y v u Q I r1 r2 h;obtain⟨i,j,e1,e2,q⟩:=h;subst e1;subst e2;obtain⟨t,rfl⟩:=r1;obtain⟨t',rfl⟩:=r2;exact iadd_int ⟨.int _,H,I.tok _,⟨_,rfl⟩,q⟩
end
section
variable {X:Cx} {pos:Pos}
noncomputable def y5T (c:TT) (tb:TS):TS:=fun D σ H=>∃W:Nat->St->Hp->Prop,(∃m,W m σ H)/\∀m σ H,W m σ H->
 c σ H fun b H1=>if b=true then ∃N:St->Hp->Prop,(∀σ' H',N σ' H'->∃m',m'<m/\W m' σ' H')/\tb { D with nx:=N,ct:=N,bk:=D.nx } σ H1 else D.nx σ H1
theorem kY {c:Expr} {body:List Stmt} {tc:TT} {tb:TS} (hp:PassesOwn (model X.prog X.w) X.A X.env X.xe) (hc:PT X c tc) (hb:PSs X body tb):PS X (.While c body [] pos) (y5T tc tb):=by
 intro pins s σ H D I h;obtain⟨W,⟨m0,w0⟩,turn⟩:=h;refine wpAny_While (codeAny_whileLoop (fun n s'=>∃σ' H',Inv X pins σ' H' s'/\W n σ' H') ?_ m0 ⟨σ,H,I,w0⟩);rintro n s1 ⟨σ1,H1,I1,w1⟩;refine wpAny_passesOwn hp (thn (hc pins s1 σ1 H1 _ I1 (turn n σ1 H1 w1)) fun b s2 ⟨H2,I2,q2⟩=>?_);cases b with
 | true=>
  obtain⟨N,hN,q2⟩:=q2;rw[if_pos rfl];refine wpAny_passesOwn hp (thn (hb pins s2 σ1 H2 _ I2 q2) fun f s3 q3=>?_);cases f with
  | next=>
   obtain⟨σ3,H3,I3,n3⟩:=q3;obtain⟨m',hm,w3⟩:=hN σ3 H3 n3;exact⟨m',hm,σ3,H3,I3,w3⟩
  | cont=>
   obtain⟨σ3,H3,I3,n3⟩:=q3;obtain⟨m',hm,w3⟩:=hN σ3 H3 n3;exact⟨m',hm,σ3,H3,I3,w3⟩
  | brk=>exact q3
  | ret v=>exact q3
 | false=>
  rw[if_neg u4i];exact wpAny_execs_nil ⟨σ1,H2,I2,q2⟩
end
structure It where
 go:Nat->Hp->Prop
 yld:Nat->Hp->V->Hp->Prop
 stop:Nat->Hp->Prop
noncomputable def z8J (X:Cx) (pins:List (Addr×Obj)) (H:Hp) (b:Addr):Prop:=
 H b=none/\b≠X.env.locals/\b∉X.fs/\(b∈X.ex∨X.s₀.heap.objs.size<=b)/\(∀x c,X.env.cells.lookup x=some c->c≠b)/\∀p∈X.pn++pins,p.1≠b
theorem Inv.fpOk {X:Cx} {pins:List (Addr×Obj)} {σ:St} {H H':Hp} {s:Shared} {b:Addr} (I:Inv X pins σ H s) (hb:s.heap.objs.size<=b) (hn:H' b=none):z8J X pins H' b:=by
 refine⟨hn,Nat.ne_of_gt (u4X I.lt hb),I.nofs hb,.inr (u5I I.sz hb),fun x c e z=>?_,fun p hp z=>?_⟩
 ·obtain⟨v,q⟩:=I.cell x c e;exact absurd (u4X q.lt (by rw[z];exact hb)) (u5n _)
 ·exact absurd (u4X (u4D (I.pin p hp).1) (by rw[z];exact hb)) (u5n _)
structure Turn (P:Program) (w:World) (K:u3q) (tg:Expr) (J:It) (fp:List Addr) (it:Addr) (tn:Nat->Heap->Prop):Prop where
 mem:it∈fp
 obj:∀i h,tn i h->∀b∈fp,∃o,h.get? b=some o/\∀v,o.data≠.cell v
 keep:∀i h h',tn i h->(∀b∈fp,∀o,h.get? b=some o->h'.get? b=some o)->tn i h'
 item:∀(X:Cx),X.prog=P->X.w=w->X.K=K->X.calm=true->∀(i:Nat) (pins:List (Addr×Obj)) (s:Shared) (σ:St) (H:Hp) (E:Value->Shared->Prop),Inv X pins σ H s->(∀b∈fp,z8J X pins H b)->tn i s.heap->J.go i H->
  wpAny (model P w) X.A (pyNext (.ref it)) (fun r s1=>∃u,r=some u/\
   wpAny (model P w) X.A (letOwnedTupleGo tg (.ref it) u) (fun _ s2=>∃x H',Inv X pins σ H' s2/\RelV x u/\J.yld i H x H'/\tn (i+1) s2.heap/\∀b∈fp,H' b=none) E s1) E s
 done:∀(X:Cx),X.prog=P->X.w=w->X.K=K->X.calm=true->∀(i:Nat) (pins:List (Addr×Obj)) (s:Shared) (σ:St) (H:Hp) (E:Value->Shared->Prop),Inv X pins σ H s->(∀b∈fp,z8J X pins H b)->tn i s.heap->J.stop i H->
  wpAny (model P w) X.A (pyNext (.ref it)) (fun r s1=>r=none/\Inv X pins σ H s1) E s
 self:∀(A:Around) (i:Nat) (s:Shared) (Q:Value->Shared->Prop) (E:Value->Shared->Prop),tn i s.heap->Q (.ref it) s->wpAny (model P w) A (pyIter (.ref it)) Q E s
noncomputable abbrev TI:=St->Hp->(It->Hp->Prop)->Prop
noncomputable def PIE (X:Cx) (pins:List (Addr×Obj)) (σ:St) (tg:Expr) (R:It->Hp->Prop) (itv:Value) (s2:Shared):Prop:=
 ∃(it:Addr) (fp:List Addr) (tn:Nat->Heap->Prop) (J:It) (H':Hp),itv=.ref it/\Inv X pins σ H' s2/\Turn X.prog X.w X.K tg J fp it tn/\tn 0 s2.heap/\(∀b∈fp,z8J X pins H' b)/\R J H'
noncomputable def PI (X:Cx) (tg iter:Expr) (wi:TI):Prop:=
 ∀(pins:List (Addr×Obj)) (s:Shared) (σ:St) (H:Hp) (R:It->Hp->Prop),Inv X pins σ H s->wi σ H R->
  wpAny (model X.prog X.w) X.A (eval iter X.env) (fun v s1=>wpAny (model X.prog X.w) X.A (pyIter v) (PIE X pins σ tg R) X.xe s1) X.xe s
theorem y0s {M:Model} {A:Around} {E:Value->Shared->Prop} {s:Shared} {tg:Expr} {it:Addr} {u:Value} {o:Obj} {n:String} {vs:Array Value} {Q:Unit->Shared->Prop} (ho:s.heap.get? it=some o) (hc:o.cls=.type n) (hd:o.data=.fields vs)
    (hn:["enumerate", "zip", "dict_itemiterator", "dict_reverseitemiterator", "odict_iterator", "itertools.zip_longest", "itertools.pairwise"].contains n=false) (hQ:Q () s):wpAny M A (letOwnedTupleGo tg (.ref it) u) Q E s:=by
  unfold letOwnedTupleGo;cases tg <;> first
    | exact u3u hQ
    | (cases u <;> first
        | exact u3u hQ
        | (refine u3r (wpAny_load ho ?_)
           rw[hc,hd];show wpAny M A (if (["enumerate", "zip", "dict_itemiterator", "dict_reverseitemiterator", "odict_iterator", "itertools.zip_longest", "itertools.pairwise"].contains n && vs[0]? == some (rawInt _))=true then _ else _) Q E s;rw[if_neg (by intro h;rw[hn,Bool.false_and] at h;cases h)];exact u3u hQ))
noncomputable def Itl (K:u3q) (a:Addr):It:=
 ⟨fun i H=>∃xs x,SqL K H a xs/\xs[i]?=some x,fun i H x H'=>H'=H/\∀xs,SqL K H a xs->xs[i]?=some x,fun i H=>∃xs,SqL K H a xs/\xs.length<=i⟩
noncomputable def Itt (K:u3q) (a:Addr):It:=
 ⟨fun i H=>∃xs x,SqT K H a xs/\xs[i]?=some x,fun i H x H'=>H'=H/\∀xs,SqT K H a xs->xs[i]?=some x,fun i H=>∃xs,SqT K H a xs/\xs.length<=i⟩
noncomputable def Itr (lo:Int) (n:Nat):It:=⟨fun i _=>i<n,fun i H x H'=>H'=H/\x=.int (lo+i),fun i _=>n<=i⟩
theorem z9O {P:Program} {w:World} {K:u3q} {tg:Expr} (a it:Addr):Turn P w K tg (Itl K a) [it] it (fun i h=>h.IsListIter it a i) where
 mem:=by simp
 obj:=fun i h st b hb=>by
  have e:b=it:=by simpa using hb
  subst e;obtain⟨o,e,c,d⟩:=st;exact⟨o,e,fun v z=>by rw[d] at z;cases z⟩
 keep:=fun i h h' st k=>st.at fun o e=>k it (by simp) o e
 item:=by
  intro X hP hw hK hc i pins s σ H E I hf st hg;subst hP hw hK;obtain⟨xs,x,hq,hx⟩:=hg;obtain⟨its,rv,p,hz⟩:=I.list hq;obtain⟨u,hu,ru⟩:=rv.get hx;obtain⟨f0,f1,f2,f3,f4,f5⟩:=hf it (by simp);refine wpAny_pyNext_list_item st p.isList (x:=u) (by simpa using hu) fun h' st' sb=>?_;have I1:Inv X pins σ H { s with heap:=h' }:=I.turned (t':=s.toks) (fun b o hb e=>(sb.2 b hb).trans e) f0 f1 f3 f4 f5;obtain⟨o,e,c,d⟩:=id st';exact⟨u,rfl,y0s (s:={ s with heap:=h' }) e c d (by decide) ⟨x,H,I1,ru,⟨rfl,fun ys hy=>by rw[I.list_inj hy hq];exact hx⟩,st',fun b hb=>(hf b hb).1⟩⟩
 done:=by
  intro X hP hw hK hc i pins s σ H E I hf st hg;subst hP hw hK;obtain⟨xs,hq,hx⟩:=hg;obtain⟨its,rv,p,hz⟩:=I.list hq;obtain⟨f0,f1,f2,f3,f4,f5⟩:=hf it (by simp);have hl:=rv.length;exact wpAny_pyNext_list_end (I.ok.hd hc) st p.isList (by simp;omega) fun h' eb=>⟨rfl,I.turned (t':=s.toks) (fun b o hb e=>eb b o hb e) f0 f1 f3 f4 f5⟩
 self:=fun _ _ _ _ _ st h=>wpAny_pyIter_listiter st h
theorem z8O {P:Program} {w:World} {K:u3q} {tg:Expr} (a it:Addr):Turn P w K tg (Itt K a) [it] it (fun i h=>h.IsTupleIter it a i) where
 mem:=by simp
 obj:=fun i h st b hb=>by
  have e:b=it:=by simpa using hb
  subst e;obtain⟨o,e,c,d⟩:=st;exact⟨o,e,fun v z=>by rw[d] at z;cases z⟩
 keep:=fun i h h' st k=>st.at fun o e=>k it (by simp) o e
 item:=by
  intro X hP hw hK hc i pins s σ H E I hf st hg;subst hP hw hK;obtain⟨xs,x,hq,hx⟩:=hg;obtain⟨its,rv,p,hz⟩:=I.tuple hq;obtain⟨u,hu,ru⟩:=rv.get hx;obtain⟨f0,f1,f2,f3,f4,f5⟩:=hf it (by simp);refine wpAny_pyNext_tuple_item st (show s.heap.IsTuple a its.toArray from p) (x:=u) (by simpa using hu) fun h' st' sb=>?_;have I1:Inv X pins σ H { s with heap:=h' }:=I.turned (t':=s.toks) (fun b o hb e=>(sb.2 b hb).trans e) f0 f1 f3 f4 f5;obtain⟨o,e,c,d⟩:=id st';exact⟨u,rfl,y0s (s:={ s with heap:=h' }) e c d (by decide) ⟨x,H,I1,ru,⟨rfl,fun ys hy=>by rw[I.tuple_inj hy hq];exact hx⟩,st',fun b hb=>(hf b hb).1⟩⟩
 done:=by
  intro X hP hw hK hc i pins s σ H E I hf st hg;subst hP hw hK;obtain⟨xs,hq,hx⟩:=hg;obtain⟨its,rv,p,hz⟩:=I.tuple hq;obtain⟨f0,f1,f2,f3,f4,f5⟩:=hf it (by simp);have hl:=rv.length;exact wpAny_pyNext_tuple_end (I.ok.hd hc) st (show s.heap.IsTuple a its.toArray from p) (by simp;omega) fun h' eb=>⟨rfl,I.turned (t':=s.toks) (fun b o hb e=>eb b o hb e) f0 f1 f3 f4 f5⟩
 self:=fun _ _ _ _ _ st h=>wpAny_pyIter_tupleiter st h
theorem z8Q {P:Program} {w:World} {K:u3q} {tg:Expr} (it:Addr) (lo:Int) (n:Nat):Turn P w K tg (Itr lo n) [it] it (fun i h=>IsRangeIter h it (lo+(i:Nat)*1) ((n:Int)-(i:Nat)) 1) where
 mem:=by simp
 obj:=fun i h st b hb=>by
  have e:b=it:=by simpa using hb
  subst e;exact⟨_,st,fun v z=>by
   have z':Data.fields _=Data.cell v:=z;cases z'⟩
 keep:=fun i h h' st k=>k it (by simp) _ st
 item:=by
  intro X hP hw hK hc i pins s σ H E I hf st hg;subst hP hw hK;obtain⟨f0,f1,f2,f3,f4,f5⟩:=hf it (by simp);have W:=Walks.range (prog:=X.prog) (w:=X.w) (I.ok.hd hc) it lo 1 n;refine W.item i s _ _ hg st fun v h' tk hv st' kk=>?_;obtain⟨t,rfl⟩:=hv;have I1:Inv X pins σ H { s with heap:=h',toks:=tk }:=I.turned (fun b o hb e=>kk b o (by simpa using hb) e) f0 f1 f3 f4 f5;refine⟨_,rfl,y0s (s:={ s with heap:=h',toks:=tk }) (n:= "range_iterator") st' rfl rfl (by decide) ⟨.int (lo+i),H,I1,⟨t,?_⟩,⟨rfl,rfl⟩,st',fun b hb=>(hf b hb).1⟩⟩;rw[Int.mul_one]
 done:=by
  intro X hP hw hK hc i pins s σ H E I hf st hg;subst hP hw hK;obtain⟨f0,f1,f2,f3,f4,f5⟩:=hf it (by simp);exact wpAny_pyNext_range_end (I.ok.hd hc) st (by have:n<=i:=hg;omega) fun h' eb=>⟨rfl,I.turned (t':=s.toks) (fun b o hb e=>eb b o hb e) f0 f1 f3 f4 f5⟩
 self:=fun _ _ _ _ _ st h=>wpAny_pyIter_rangeiter st h
section
variable {X:Cx} {tg:Expr}
noncomputable def y6O (K:u3q) (tl:TE):TI:=fun σ H R=>tl σ H fun x H1=>∃a,x=.ref a/\(∃xs,SqL K H1 a xs)/\R (Itl K a) H1
noncomputable def y7V (K:u3q) (tl:TE):TI:=fun σ H R=>tl σ H fun x H1=>∃a,x=.ref a/\(∃xs,SqT K H1 a xs)/\R (Itt K a) H1
theorem yQ {l:Expr} {tl:TE} (hl:PE X l tl):PI X tg l (y6O X.K tl):=by
 intro pins s σ H R I h;refine thn (hl pins s σ H _ I h) fun v s1 ⟨x,H1,I1,r1,q1⟩=>?_;obtain⟨a,e,⟨xs,hq⟩,q⟩:=q1;subst e;cases r1;obtain⟨its,rv,p,hz⟩:=I1.list hq;refine wpAny_pyIter_list p.isList ?_;refine⟨s1.heap.objs.size,[s1.heap.objs.size],_,_,H1,rfl,I1.kept (t':=s1.toks) fun b o e=>u3v _ e,z9O a _,⟨_,u4C _ rfl,rfl,rfl⟩,fun b hb=>?_,q⟩;have e:b=s1.heap.objs.size:=by simpa using hb
 subst e;exact I1.fpOk (u3y _) (I1.hok.fresh (u3y _))
theorem y3b {l:Expr} {tl:TE} (hl:PE X l tl):PI X tg l (y7V X.K tl):=by
 intro pins s σ H R I h;refine thn (hl pins s σ H _ I h) fun v s1 ⟨x,H1,I1,r1,q1⟩=>?_;obtain⟨a,e,⟨xs,hq⟩,q⟩:=q1;subst e;cases r1;obtain⟨its,rv,p,hz⟩:=I1.tuple hq;refine wpAny_pyIter_tuple (show s1.heap.IsTuple a its.toArray from p) ?_;refine⟨s1.heap.objs.size,[s1.heap.objs.size],_,_,H1,rfl,I1.kept (t':=s1.toks) fun b o e=>u3v _ e,z8O a _,⟨_,u4C _ rfl,rfl,rfl⟩,fun b hb=>?_,q⟩;have e:b=s1.heap.objs.size:=by simpa using hb
 subst e;exact I1.fpOk (u3y _) (I1.hok.fresh (u3y _))
theorem y2G {pins:List (Addr×Obj)} {σ:St} {H:Hp} {s:Shared} {R:It->Hp->Prop} {E:Value->Shared->Prop} {lo hi:Int} {t u v:Tok} {tk:Nat} (I:Inv X pins σ H s) (h1:-(2^62)<=lo) (h2:lo<2^62) (h3:-(2^62)<=hi) (h4:hi<2^62)
  (q:R (Itr lo (hi-lo).toNat) H):wpAny (model X.prog X.w) X.A (pyIter (.ref s.heap.objs.size)) (PIE X pins σ tg R) E { s with heap:=s.heap.push { cls:=.type "range",data:=.fields #[.int lo t,.int hi u,.int 1 v] },toks:=tk }:=by
 refine wpAny_pyIter_range (IsRange.new ..) (small_one h1 h2 h3 h4) ?_;have I1:Inv X pins σ H { s with heap:=s.heap.push { cls:=.type "range",data:=.fields #[.int lo t,.int hi u,.int 1 v] },toks:=tk }:=I.kept fun b o e=>u3v _ e;refine⟨(s.heap.push { cls:=.type "range",data:=.fields #[.int lo t,.int hi u,.int 1 v] }).objs.size,[(s.heap.push { cls:=.type "range",data:=.fields #[.int lo t,.int hi u,.int 1 v] }).objs.size],_,_,H,rfl,
  I1.kept (t':=tk) fun b o e=>u3v _ e,z8Q _ lo (hi-lo).toNat,?_,fun b hb=>?_,q⟩
 ·have e1:lo+((0:Nat):Int)*1=lo:=by simp
  have e2:(((hi-lo).toNat:Nat):Int)-((0:Nat):Int)=u6S lo hi 1:=by rw[rangeSize_one];split <;> omega
  show IsRangeIter _ _ (lo+((0:Nat):Int)*1) ((((hi-lo).toNat:Nat):Int)-((0:Nat):Int)) 1;rw[e1,e2];exact u4C _ rfl
 ·have e:b=(s.heap.push { cls:=.type "range",data:=.fields #[.int lo t,.int hi u,.int 1 v] }).objs.size:=by simpa using hb
  subst e;exact I1.fpOk (u3y _) (I1.hok.fresh (u3y _))
noncomputable def y6N (ta:TA):TI:=fun σ H R=>ta σ H fun vs H1=>∃j:Int,vs=[.int j]/\-(2^62)<=j/\j<2^62/\R (Itr 0 j.toNat) H1
noncomputable def y6v (ta:TA):TI:=fun σ H R=>ta σ H fun vs H1=>∃i j:Int,vs=[.int i,.int j]/\(-(2^62)<=i/\i<2^62/\-(2^62)<=j/\j<2^62)/\R (Itr i (j-i).toNat) H1
theorem kZ {a:Expr} {ta:TA} {p pos:Pos} (hg:Gl X "range") (hm:X.mg "range" = none) (ha:PA X [a] ta) (hs:u4W [a] X.env=[(false,eval a X.env)]:=by rfl):PI X tg (.Call (.Name "range" p) [a] [] pos) (y6N ta):=by
 intro pins s σ H R I h;refine Call_ (ki I hg hm boot_range (u5Z (thn (ha pos pins s σ H _ I h) fun us s1 ⟨vs,H1,I1,r1,q1⟩=>?_) hs rfl));obtain⟨j,e,q1,q2,q⟩:=q1;subst e;cases r1 with
 | cons r rr=>
  cases rr;obtain⟨t,rfl⟩:=r;exact call_range_1 (y2G I1 (by omega) (by omega) q1 q2 (by simpa using q))
noncomputable def y7L (wi:TI) (g:TG) (tb:TS):TS:=fun D σ H=>wi σ H fun J H1=>∃W:Nat->Nat->St->Hp->Prop,(∃m,W 0 m σ H1)/\∀i m σ H,W i m σ H->
 (J.stop i H/\D.nx σ H)∨(J.go i H/\∃N:St->Hp->Prop,(∀σ' H',N σ' H'->∃m',m'<m/\W (i+1) m' σ' H')/\∀x H',J.yld i H x H'->g x σ H' fun σ2 H2=>tb { D with nx:=N,ct:=N,bk:=D.nx } σ2 H2)
noncomputable def z4g (fp:List Addr) (h:Heap):List (Addr×Obj):=fp.filterMap fun b=>(h.get? b).map fun o=>(b,o)
theorem qV {fp:List Addr} {h:Heap} {b:Addr} {o:Obj} (hb:b∈fp) (e:h.get? b=some o):(b,o)∈z4g fp h:=u5g.mpr ⟨b,hb,by rw[e];rfl⟩
theorem y0E {fp:List Addr} {h:Heap} {p:Addr×Obj} (hp:p∈z4g fp h):p.1∈fp/\h.get? p.1=some p.2:=by
 obtain⟨b,hb,e⟩:=u5g.mp hp;cases q:h.get? b with
 | none=>rw[q] at e;cases e
 | some o=>
  rw[q] at e;have e':(b,o)=p:=u5Y e;subst e';exact⟨hb,q⟩
theorem Inv.pinned {pins:List (Addr×Obj)} {σ:St} {H:Hp} {s:Shared} {fp:List Addr} (I:Inv X pins σ H s) (hf:∀b∈fp,z8J X pins H b) (ho:∀b∈fp,∃o,s.heap.get? b=some o/\∀v,o.data≠.cell v):Inv X (pins++z4g fp s.heap) σ H s:=
 I.pins_of fun p hp=>(u4H.mp hp).elim (fun z=>I.pin p (u4U _ z)) fun z=>by
  obtain⟨hb,e⟩:=y0E z;obtain⟨f0,f1,f2,_⟩:=hf p.1 hb;obtain⟨o,e',d⟩:=ho p.1 hb;rw[e] at e';cases e';exact⟨e,f0,f1,f2,d⟩
theorem Inv.unpinned {pins pl:List (Addr×Obj)} {σ:St} {H:Hp} {s:Shared} (I:Inv X (pins++pl) σ H s):Inv X pins σ H s:=I.pins_of fun p hp=>I.pin p (u4U _ (u5w _ hp))
theorem xR {iter:Expr} {body:List Stmt} {wi:TI} {g:TG} {tb:TS} {pos:Pos} (hp:PassesOwn (model X.prog X.w) X.A X.env X.xe) (hc:X.calm=true) (hi:PI X tg iter wi) (hg:PG X tg g) (hb:PSs X body tb)
  (hs:∀x,foldedSetIterable iter X.env x=pure x:=by intro _;rfl):PS X (.For tg iter body [] pos) (y7L wi g tb):=by
 intro pins s σ H D I h;refine wpAny_For (thn (hi pins s σ H _ I h) fun v s1 h1=>thn h1 fun itv s2 h2=>?_) hs;obtain⟨it,fp,tn,J,H2,e,I2,T,st2,f2,W,⟨m0,w0⟩,turn⟩:=h2;subst e;have stat:∀ {H':Hp},(∀b∈fp,H' b=none)->∀b∈fp,z8J X pins H' b:=fun hn b hb=>⟨hn b hb,(f2 b hb).2⟩
 refine codeAny_forLoop_any (fun n s'=>∃i σ' H',Inv X pins σ' H' s'/\tn i s'.heap/\(∀b∈fp,H' b=none)/\W i n σ' H') ?_ m0 ⟨0,σ,H2,I2,st2,fun b hb=>(f2 b hb).1,w0⟩;rintro n s3 ⟨i,σ3,H3,I3,st3,fr3,w3⟩;rcases turn i n σ3 H3 w3 with⟨stop,qn⟩|⟨go,N,hN,step⟩
 ·refine wpAny_passesOwn hp (thn (T.done X rfl rfl rfl hc i pins s3 σ3 H3 X.xe I3 (stat fr3) st3 stop) fun r s4 ⟨hr,I4⟩=>?_);subst hr;exact wpAny_execs_nil ⟨σ3,H3,I4,qn⟩
 ·refine wpAny_passesOwn hp (thn (T.item X rfl rfl rfl hc i pins s3 σ3 H3 X.xe I3 (stat fr3) st3 go) fun r s4 ⟨u,hr,h4⟩=>?_);subst hr;refine wpAny_passesOwn hp (thn h4 fun _ s5 ⟨x,H5,I5,r5,y5,st5,fr5⟩=>?_);have I5':=I5.pinned (stat fr5) (T.obj _ _ st5);refine wpAny_passesOwn hp (thn (hg _ s5 σ3 H5 x u _ I5' r5 (step x H5 y5)) fun _ s6 ⟨σ6,H6,I6,q6⟩=>?_);refine wpAny_passesOwn hp (thn (hb _ s6 σ6 H6 _ I6 q6) fun f s7 q7=>?_);have again:∀ {σ7:St} {H7:Hp},Inv X (pins++z4g fp s5.heap) σ7 H7 s7->N σ7 H7->∃m,m<n/\∃i σ' H',Inv X pins σ' H' s7/\tn i s7.heap/\(∀b∈fp,H' b=none)/\W i m σ' H':=fun {σ7 H7} I7 n7=>by
   obtain⟨m',hm,w7⟩:=hN σ7 H7 n7;refine⟨m',hm,i+1,σ7,H7,I7.unpinned,T.keep _ _ _ st5 fun b hb o e=>(I7.pin (b,o) (u4U _ (u4U _ (qV hb e)))).1,fun b hb=>?_,w7⟩;obtain⟨o,e,d⟩:=T.obj _ _ st5 b hb;exact (I7.pin (b,o) (u4U _ (u4U _ (qV hb e)))).2.1
  cases f with
  | next=>obtain⟨σ7,H7,I7,n7⟩:=q7;exact again I7 n7
  | cont=>obtain⟨σ7,H7,I7,n7⟩:=q7;exact again I7 n7
  | brk=>obtain⟨σ7,H7,I7,q7⟩:=q7;exact⟨σ7,H7,I7.unpinned,q7⟩
  | ret v=>obtain⟨x7,σ7,H7,I7,r7,q7⟩:=q7;exact⟨x7,σ7,H7,I7.unpinned,r7,q7⟩
end
theorem y3A {K:u3q} {a:Addr} {xs:List V} {g:TG} {tb:TS} {D:Ends} {σ:St} {H:Hp} (Pv:Nat->St->Hp->Prop) (h0:Pv 0 σ H) (hl:∀i σ H,i<=xs.length->Pv i σ H->SqL K H a xs)
  (hs:∀i x σ H,xs[i]?=some x->Pv i σ H->g x σ H fun σ2 H2=>tb { D with nx:=Pv (i+1),ct:=Pv (i+1),bk:=D.nx } σ2 H2) (hd:∀σ H,Pv xs.length σ H->D.nx σ H) :
  ∃W:Nat->Nat->St->Hp->Prop,(∃m,W 0 m σ H)/\∀i m σ H,W i m σ H->
   ((Itl K a).stop i H/\D.nx σ H)∨((Itl K a).go i H/\∃N:St->Hp->Prop,(∀σ' H',N σ' H'->∃m',m'<m/\W (i+1) m' σ' H')/\∀x H',(Itl K a).yld i H x H'->g x σ H' fun σ2 H2=>tb { D with nx:=N,ct:=N,bk:=D.nx } σ2 H2):=by
 refine⟨fun i m σ H=>m=xs.length-i/\i<=xs.length/\Pv i σ H,⟨xs.length,by simp,u4q _,h0⟩,?_⟩;rintro i m σ H ⟨rfl,hi,p⟩;have q:=hl i σ H hi p;by_cases hlt:i<xs.length
 ·refine .inr ⟨⟨xs,xs[i],q,by simp [hlt]⟩,Pv (i+1),fun σ' H' p'=>⟨xs.length-(i+1),by omega,rfl,hlt,p'⟩,fun x H' y=>?_⟩;obtain⟨e,y⟩:=y;subst e;exact hs i x σ _ (y xs q) p
 ·have e:i=xs.length:=by omega
  subst e;exact .inl ⟨⟨xs,q,u3y _⟩,hd σ H p⟩
theorem y4r {K:u3q} {a:Addr} {xs:List V} {g:TG} {tb:TS} {D:Ends} {σ:St} {H:Hp} (Pv:Nat->St->Hp->Prop) (h0:Pv 0 σ H) (hl:∀i σ H,i<=xs.length->Pv i σ H->SqT K H a xs)
  (hs:∀i x σ H,xs[i]?=some x->Pv i σ H->g x σ H fun σ2 H2=>tb { D with nx:=Pv (i+1),ct:=Pv (i+1),bk:=D.nx } σ2 H2) (hd:∀σ H,Pv xs.length σ H->D.nx σ H) :
  ∃W:Nat->Nat->St->Hp->Prop,(∃m,W 0 m σ H)/\∀i m σ H,W i m σ H->
   ((Itt K a).stop i H/\D.nx σ H)∨((Itt K a).go i H/\∃N:St->Hp->Prop,(∀σ' H',N σ' H'->∃m',m'<m/\W (i+1) m' σ' H')/\∀x H',(Itt K a).yld i H x H'->g x σ H' fun σ2 H2=>tb { D with nx:=N,ct:=N,bk:=D.nx } σ2 H2):=by
 refine⟨fun i m σ H=>m=xs.length-i/\i<=xs.length/\Pv i σ H,⟨xs.length,by simp,u4q _,h0⟩,?_⟩;rintro i m σ H ⟨rfl,hi,p⟩;have q:=hl i σ H hi p;by_cases hlt:i<xs.length
 ·refine .inr ⟨⟨xs,xs[i],q,by simp [hlt]⟩,Pv (i+1),fun σ' H' p'=>⟨xs.length-(i+1),by omega,rfl,hlt,p'⟩,fun x H' y=>?_⟩;obtain⟨e,y⟩:=y;subst e;exact hs i x σ _ (y xs q) p
 ·have e:i=xs.length:=by omega
  subst e;exact .inl ⟨⟨xs,q,u3y _⟩,hd σ H p⟩
theorem y0v {lo:Int} {n:Nat} {g:TG} {tb:TS} {D:Ends} {σ:St} {H:Hp} (Pv:Nat->St->Hp->Prop) (h0:Pv 0 σ H)
  (hs:∀i σ H,i<n->Pv i σ H->g (.int (lo+i)) σ H fun σ2 H2=>tb { D with nx:=Pv (i+1),ct:=Pv (i+1),bk:=D.nx } σ2 H2) (hd:∀σ H,Pv n σ H->D.nx σ H) :
  ∃W:Nat->Nat->St->Hp->Prop,(∃m,W 0 m σ H)/\∀i m σ H,W i m σ H->
   ((Itr lo n).stop i H/\D.nx σ H)∨((Itr lo n).go i H/\∃N:St->Hp->Prop,(∀σ' H',N σ' H'->∃m',m'<m/\W (i+1) m' σ' H')/\∀x H',(Itr lo n).yld i H x H'->g x σ H' fun σ2 H2=>tb { D with nx:=N,ct:=N,bk:=D.nx } σ2 H2):=by
 refine⟨fun i m σ H=>m=n-i/\i<=n/\Pv i σ H,⟨n,by simp,u4q _,h0⟩,?_⟩;rintro i m σ H ⟨rfl,hi,p⟩;by_cases hlt:i<n
 ·refine .inr ⟨hlt,Pv (i+1),fun σ' H' p'=>⟨n-(i+1),by omega,rfl,hlt,p'⟩,fun x H' y=>?_⟩;obtain⟨e,y⟩:=y;subst e y;exact hs i σ _ hlt p
 ·have e:i=n:=by omega
  subst e;exact .inl ⟨u3y _,hd σ H p⟩
noncomputable abbrev R2:=V->V->Hp->VK->Prop
noncomputable def OpR (X:Cx) (f:Value->Value->Sem Value) (r:R2):Prop:=
 ∀(pins:List (Addr×Obj)) (s:Shared) (σ:St) (H:Hp) (x y:V) (v u:Value) (Q:VK),Inv X pins σ H s->RelV x v->RelV y u->r x y H Q->
  wpAny (model X.prog X.w) X.A (f v u) (EP X pins σ Q) X.xe s
noncomputable def UnR (X:Cx) (f:Value->Sem Value) (r:V->Hp->VK->Prop):Prop:=
 ∀(pins:List (Addr×Obj)) (s:Shared) (σ:St) (H:Hp) (x:V) (v:Value) (Q:VK),Inv X pins σ H s->RelV x v->r x H Q->
  wpAny (model X.prog X.w) X.A (f v) (EP X pins σ Q) X.xe s
noncomputable def CallR (X:Cx) (f:Value) (r:List V->Hp->VK->Prop):Prop:=
 ∀(pins:List (Addr×Obj)) (s:Shared) (σ:St) (H:Hp) (xs:List V) (us:List Value) (Q:VK),Inv X pins σ H s->Vals xs us->r xs H Q->
  wpAny (model X.prog X.w) X.A (call f us) (EP X pins σ Q) X.xe s
noncomputable def tOp (r:R2) (ta tb:TE):TE:=fun σ H Q=>ta σ H fun x H1=>tb σ H1 fun y H2=>r x y H2 Q
noncomputable def tUn (r:V->Hp->VK->Prop) (ta:TE):TE:=fun σ H Q=>ta σ H fun x H1=>r x H1 Q
noncomputable def rI (C:Int->Int->Prop) (g:Int->Int->V):R2:=fun x y H Q=>∃i j,x=.int i/\y=.int j/\C i j/\Q (g i j) H
noncomputable def rI0 (g:Int->Int->V):R2:=fun x y H Q=>∃i j,x=.int i/\y=.int j/\Q (g i j) H
noncomputable def rU (g:Int->V):V->Hp->VK->Prop:=fun x H Q=>∃i,x=.int i/\Q (g i) H
section
variable {X:Cx} {a b c:Expr} {ta tb tc:TE} {pos:Pos}
theorem y7C (ha:PE X a ta) (hb:PE X b tb) {pins:List (Addr×Obj)} {s:Shared} {σ:St} {H:Hp} {R:V->V->Hp->Prop} (I:Inv X pins σ H s)
  (h:ta σ H fun x H1=>tb σ H1 fun y H2=>R x y H2) {Q:Value->Shared->Prop} {f:Value->Value->Sem Value}
  (hf:∀v u s2 x y H2,Inv X pins σ H2 s2->RelV x v->RelV y u->R x y H2->wpAny (model X.prog X.w) X.A (f v u) Q X.xe s2) :
  wpAny (model X.prog X.w) X.A (eval a X.env) (fun v s₁=>wpAny (model X.prog X.w) X.A (eval b X.env) (fun u s₂=>wpAny (model X.prog X.w) X.A (f v u) Q X.xe s₂) X.xe s₁) X.xe s:=by
 refine thn (ha pins s σ H _ I h) fun v s1 ⟨x,H1,I1,r1,q1⟩=>?_;refine thn (hb pins s1 σ H1 _ I1 q1) fun u s2 ⟨y,H2,I2,r2,q2⟩=>?_;exact hf v u s2 x y H2 I2 r1 r2 q2
theorem zN {op:Operator} {r:R2} (ho:OpR X (binaryOp op) r) (ha:PE X a ta) (hb:PE X b tb):PE X (.BinOp a op b pos) (tOp r ta tb):=by
 intro pins s σ H Q I h;exact wpAny_BinOp (y7C ha hb I h fun v u s2 x y H2 I2 rx ry q=>ho pins s2 σ H2 x y v u Q I2 rx ry q)
theorem y2Q {op:UnaryOp} {r:V->Hp->VK->Prop} (ho:UnR X (unaryOp op) r) (ha:PE X a ta):PE X (.UnaryOp op a pos) (tUn r ta):=by
 intro pins s σ H Q I h;exact UnaryOp_ (thn (ha pins s σ H _ I h) fun v s1 ⟨x,H1,I1,r1,q1⟩=>ho pins s1 σ H1 x v Q I1 r1 q1)
theorem opI {f:Value->Value->Sem Value} {C:Int->Int->Prop} {g:Int->Int->Int}
  (rule:∀(i j:Int) (t u:Tok) (s:Shared) (Q:Value->Shared->Prop) (E:Value->Shared->Prop),C i j->Q (.int (g i j) s.toks) { s with toks:=s.toks+1 }->wpAny (model X.prog X.w) X.A (f (.int i t) (.int j u)) Q E s) :
  OpR X f (rI C fun i j=>.int (g i j)):=by
 intro pins s σ H x y v u Q I rx ry h;obtain⟨i,j,rfl,rfl,hc,q⟩:=h;obtain⟨t,rfl⟩:=rx;obtain⟨t',rfl⟩:=ry;exact rule i j t t' s _ _ hc ⟨.int (g i j),H,I.tok _,⟨_,rfl⟩,q⟩
theorem y7S {f:Value->Value->Sem Value} {g:Int->Int->Int}
  (rule:∀(i j:Int) (t u:Tok) (s:Shared) (Q:Value->Shared->Prop) (E:Value->Shared->Prop),Q (.int (g i j) s.toks) { s with toks:=s.toks+1 }->wpAny (model X.prog X.w) X.A (f (.int i t) (.int j u)) Q E s) :
  OpR X f (rI0 fun i j=>.int (g i j)):=by
 intro pins s σ H x y v u Q I rx ry h;obtain⟨i,j,rfl,rfl,q⟩:=h;obtain⟨t,rfl⟩:=rx;obtain⟨t',rfl⟩:=ry;exact rule i j t t' s _ _ ⟨.int (g i j),H,I.tok _,⟨_,rfl⟩,q⟩
theorem y6Y {f:Value->Value->Sem Value} {g:Int->Int->Bool}
  (rule:∀(i j:Int) (t u:Tok) (s:Shared) (Q:Value->Shared->Prop) (E:Value->Shared->Prop),Q (.bool (g i j)) s->wpAny (model X.prog X.w) X.A (f (.int i t) (.int j u)) Q E s) :
  OpR X f (rI0 fun i j=>.bl (g i j)):=by
 intro pins s σ H x y v u Q I rx ry h;obtain⟨i,j,rfl,rfl,q⟩:=h;obtain⟨t,rfl⟩:=rx;obtain⟨t',rfl⟩:=ry;exact rule i j t t' s _ _ ⟨.bl (g i j),H,I,rfl,q⟩
noncomputable def y8F (i j:Int):Prop:=0<=j/\j<=1000000/\i.natAbs<2^64
theorem xI:OpR X (binaryOp .Add) (rI0 fun i j=>.int (i+j)):=y7S fun _ _ _ _ _ _ _ q=>add_int q
theorem xl:OpR X (binaryOp .Sub) (rI0 fun i j=>.int (i-j)):=y7S fun _ _ _ _ _ _ _ q=>sub_int q
theorem zi:OpR X (binaryOp .Mod) (rI (fun _ j=>0<j) fun i j=>.int (i%j)):=opI fun i j _ _ _ _ _ hc q=>by
 have h1:(0:Int)<j:=hc;exact mod_int' (by omega) (by rw[Int.fmod_eq_emod_of_nonneg i (by omega)];exact q)
theorem y0C:OpR X (binaryOp .Pow) (rI y8F fun i j=>.int (i^j.toNat)):=opI fun _ _ _ _ _ _ _ hc q=>pow_int_small hc.1 hc.2.1 hc.2.2 q
theorem unI {f:Value->Sem Value} {g:Int->Int}
  (rule:∀(i:Int) (t:Tok) (s:Shared) (Q:Value->Shared->Prop) (E:Value->Shared->Prop),Q (.int (g i) s.toks) { s with toks:=s.toks+1 }->wpAny (model X.prog X.w) X.A (f (.int i t)) Q E s) :
  UnR X f (rU fun i=>.int (g i)):=by
 intro pins s σ H x v Q I rx h;obtain⟨i,rfl,q⟩:=h;obtain⟨t,rfl⟩:=rx;exact rule i t s _ _ ⟨.int (g i),H,I.tok _,⟨_,rfl⟩,q⟩
theorem z6l:UnR X (unaryOp .USub) (rU fun i=>.int (-i)):=unI fun _ _ _ _ _ q=>neg_int q
end
noncomputable def y7Q:V->V->Bool
 | .non,.non=>true | .non,.int _=>true | .int _,.non=>true | .non,.bl _=>true | .bl _,.non=>true | .non,.str _=>true | .str _,.non=>true
 | .int _,.int _=>true | .bl _,.bl _=>true | .str _,.str _=>true | .byt _,.byt _=>true
 | .int _,.str _=>true | .str _,.int _=>true | .bl _,.str _=>true | .str _,.bl _=>true
 | _,_=>false
noncomputable def rEq:R2:=fun x y H Q=>y7Q x y=true/\Q (.bl (decide (x=y))) H
noncomputable def rNe:R2:=fun x y H Q=>y7Q x y=true/\Q (.bl (!decide (x=y))) H
theorem y1C {i j:Int}:decide (V.int i=V.int j)=(i == j):=by
 rw[u6D];simp
theorem y3n {i j:Bool}:decide (V.bl i=V.bl j)=(i == j):=by
 rw[u6D];simp
theorem y1B {i j:Str}:decide (V.str i=V.str j)=(i == j):=by
 rw[u6D];simp
theorem y1D {i j:Array UInt8}:decide (V.byt i=V.byt j)=(i.toList == j.toList):=by
 rw[u6D];cases i;cases j;simp
section
variable {X:Cx} {a b c:Expr} {ta tb tc:TE} {pos:Pos}
theorem yC {pins:List (Addr×Obj)} {σ:St} {H:Hp} {s:Shared} {Q:VK} {k k':Bool} (I:Inv X pins σ H s) (q:Q (.bl k) H) (e:k=k'):EP X pins σ Q (.bool k') s:=by
 subst e;exact⟨.bl k,H,I,rfl,q⟩
theorem yX:OpR X (u6Q .Eq) rEq:=by
 intro pins s σ H x y v u Q I rx ry h;obtain⟨hs,q⟩:=h;cases x with
 | non=>
  cases rx;cases y with
  | non=>cases ry;exact PySem.EqNone.eq_none_none (yC I q (by simp))
  | bl j=>cases ry;exact PySem.EqNone.eq_none_bool (yC I q (by simp))
  | int j=>obtain⟨t',rfl⟩:=ry;exact PySem.EqNone.eq_none_int (yC I q (by simp))
  | str j=>obtain⟨t',rfl⟩:=ry;exact PySem.EqNone.eq_none_str (yC I q (by simp))
  | _=>exact absurd (show false=true from hs) u4i
 | bl i=>
  cases rx;cases y with
  | non=>cases ry;exact PySem.EqNone.eq_bool_none (yC I q (by simp))
  | bl j=>cases ry;exact eq_bool (yC I q y3n)
  | str j=>obtain⟨t',rfl⟩:=ry;exact PySem.EqMixed.eq_bool_str (yC I q (by simp))
  | _=>exact absurd (show false=true from hs) u4i
 | int i=>
  obtain⟨t,rfl⟩:=rx;cases y with
  | non=>cases ry;exact PySem.EqNone.eq_int_none (yC I q (by simp))
  | int j=>obtain⟨t',rfl⟩:=ry;exact eq_int (yC I q y1C)
  | str j=>obtain⟨t',rfl⟩:=ry;exact PySem.EqMixed.eq_int_str (yC I q (by simp))
  | _=>exact absurd (show false=true from hs) u4i
 | str i=>
  obtain⟨t,rfl⟩:=rx;cases y with
  | non=>cases ry;exact PySem.EqNone.eq_str_none (yC I q (by simp))
  | bl j=>cases ry;exact PySem.EqMixed.eq_str_bool (yC I q (by simp))
  | int j=>obtain⟨t',rfl⟩:=ry;exact PySem.EqMixed.eq_str_int (yC I q (by simp))
  | str j=>obtain⟨t',rfl⟩:=ry;exact eq_str (yC I q y1B)
  | _=>exact absurd (show false=true from hs) u4i
 | byt i=>
  obtain⟨t,rfl⟩:=rx;cases y with
  | byt j=>obtain⟨t',rfl⟩:=ry;exact PySem.W.eq_bytes (yC I q y1D)
  | _=>exact absurd (show false=true from hs) u4i
 | _=>cases y <;> exact absurd (show false=true from hs) u4i
theorem z4k:OpR X (u6Q .NotEq) rNe:=by
 intro pins s σ H x y v u Q I rx ry h;obtain⟨hs,q⟩:=h;cases x with
 | non=>
  cases rx;cases y with
  | non=>cases ry;exact PySem.EqNone.ne_none_none (yC I q (by simp))
  | bl j=>cases ry;exact PySem.EqNone.ne_none_bool (yC I q (by simp))
  | int j=>obtain⟨t',rfl⟩:=ry;exact PySem.EqNone.ne_none_int (yC I q (by simp))
  | str j=>obtain⟨t',rfl⟩:=ry;exact PySem.EqNone.ne_none_str (yC I q (by simp))
  | _=>exact absurd (show false=true from hs) u4i
 | bl i=>
  cases rx;cases y with
  | non=>cases ry;exact PySem.EqNone.ne_bool_none (yC I q (by simp))
  | bl j=>cases ry;exact ne_bool (yC I q (congrArg not y3n))
  | str j=>obtain⟨t',rfl⟩:=ry;exact PySem.EqMixed.ne_bool_str (yC I q (by simp))
  | _=>exact absurd (show false=true from hs) u4i
 | int i=>
  obtain⟨t,rfl⟩:=rx;cases y with
  | non=>cases ry;exact PySem.EqNone.ne_int_none (yC I q (by simp))
  | int j=>obtain⟨t',rfl⟩:=ry;exact ne_int (yC I q (congrArg not y1C))
  | str j=>obtain⟨t',rfl⟩:=ry;exact PySem.EqMixed.ne_int_str (yC I q (by simp))
  | _=>exact absurd (show false=true from hs) u4i
 | str i=>
  obtain⟨t,rfl⟩:=rx;cases y with
  | non=>cases ry;exact PySem.EqNone.ne_str_none (yC I q (by simp))
  | bl j=>cases ry;exact PySem.EqMixed.ne_str_bool (yC I q (by simp))
  | int j=>obtain⟨t',rfl⟩:=ry;exact PySem.EqMixed.ne_str_int (yC I q (by simp))
  | str j=>obtain⟨t',rfl⟩:=ry;exact ne_str (yC I q (congrArg not y1B))
  | _=>exact absurd (show false=true from hs) u4i
 | byt i=>
  obtain⟨t,rfl⟩:=rx;cases y with
  | byt j=>obtain⟨t',rfl⟩:=ry;exact PySem.W.ne_bytes (yC I q (congrArg not y1D))
  | _=>exact absurd (show false=true from hs) u4i
 | _=>cases y <;> exact absurd (show false=true from hs) u4i
theorem wV:OpR X (u6Q .Lt) (rI0 fun i j=>.bl (decide (i<j))):=y6Y fun _ _ _ _ _ _ _ q=>lt_int q
theorem z4l:OpR X (u6Q .LtE) (rI0 fun i j=>.bl (decide (i<=j))):=y6Y fun _ _ _ _ _ _ _ q=>le_int q
theorem y2X:OpR X (u6Q .Gt) (rI0 fun i j=>.bl (decide (j<i))):=y6Y fun _ _ _ _ _ _ _ q=>gt_int q
theorem y4Z:OpR X (u6Q .GtE) (rI0 fun i j=>.bl (decide (j<=i))):=y6Y fun _ _ _ _ _ _ _ q=>ge_int q
theorem z0i:OpR X (u6Q .In) (fun x y H Q=>∃i j,x=.str i/\y=.str j/\Q (.bl (!(u4s j i 0 j.length 1).isEmpty)) H):=by
 intro pins s σ H x y v u Q I rx ry h;obtain⟨i,j,rfl,rfl,q⟩:=h;obtain⟨t,rfl⟩:=rx;obtain⟨t',rfl⟩:=ry;exact in_str (yC I q rfl)
theorem z1z:OpR X (u6Q .Is) (fun x y H Q=>y=.non/\Q (.bl (decide (x=.non))) H):=by
  intro pins s σ H x y v u Q I rx ry h;obtain⟨rfl,q⟩:=h;cases ry;refine is_none_gen (yC I q ?_);cases x <;> first
    | (cases rx;rfl)
    | (obtain⟨t,rfl⟩:=rx;rfl)
theorem kF:OpR X (u6Q .IsNot) (fun x y H Q=>y=.non/\Q (.bl (!decide (x=.non))) H):=by
  intro pins s σ H x y v u Q I rx ry h;obtain⟨rfl,q⟩:=h;cases ry;refine isnot_none_gen (yC I q ?_);cases x <;> first
    | (cases rx;rfl)
    | (obtain⟨t,rfl⟩:=rx;rfl)
theorem zV (b:Expr) {op:CmpOp} (h:op≠.In:=by decide) (h2:op≠.NotIn:=by decide):behindInMarks op b=false:=by
 have e1:(op == CmpOp.In)=false:=by cases op <;> first|rfl|exact absurd rfl h
 have e2:(op == CmpOp.NotIn)=false:=by cases op <;> first|rfl|exact absurd rfl h2
 cases b <;> simp [behindInMarks,e1,e2]
theorem yt {op:CmpOp} {r:R2} (ho:OpR X (u6Q op) r) (ha:PE X a ta) (hb:PE X b tb) (hm:behindInMarks op b=false):PE X (.Compare a [op] [b] pos) (tOp r ta tb):=by
 intro pins s σ H Q I h;exact wpAny_Compare1 (y7C ha hb I h fun v u s2 x y H2 I2 rx ry q=>ho pins s2 σ H2 x y v u Q I2 rx ry q) hm
noncomputable def y4B (t:TE):TT:=fun σ H Q=>t σ H fun x H'=>∃k,x=.bl k/\Q k H'
theorem zR {op:CmpOp} {r:R2} (ho:OpR X (u6Q op) r) (ha:PE X a ta) (hb:PE X b tb) (hm:behindInMarks op b=false):PT X (.Compare a [op] [b] pos) (y4B (tOp r ta tb)):=by
 intro pins s σ H Q I h;refine wpAny_isTrue_Compare1 (thn (ha pins s σ H _ I h) fun v s1 ⟨x,H1,I1,r1,q1⟩=>thn (hb pins s1 σ H1 _ I1 q1) fun u s2 ⟨y,H2,I2,r2,q2⟩=>
  thn (ho pins s2 σ H2 x y v u _ I2 r1 r2 q2) fun c s3 ⟨z,H3,I3,r3,k,e,q3⟩=>?_) hm
 subst e;cases r3;exact u6Y ⟨H3,I3,q3⟩
noncomputable def y3U (r r':R2) (ta tb tc:TE):TE:=fun σ H Q=>ta σ H fun x H1=>tb σ H1 fun y H2=>r x y H2 fun z H3=>∃k,z=.bl k/\
 (if k=true then tc σ H3 fun w' H4=>r' y w' H4 Q else Q (.bl false) H3)
theorem vb {op op':CmpOp} {r r':R2} (ho:OpR X (u6Q op) r) (ho':OpR X (u6Q op') r') (ha:PE X a ta) (hb:PE X b tb) (hc:PE X c tc)
  (hm:lastMarks [op,op'] [b,c]=false:=by with_unfolding_all rfl):PE X (.Compare a [op,op'] [b,c] pos) (y3U r r' ta tb tc):=by
 intro pins s σ H Q I h;refine Compare_chain (thn (ha pins s σ H _ I h) fun v s1 ⟨x,H1,I1,r1,q1⟩=>chain_link (thn (hb pins s1 σ H1 _ I1 q1) fun u s2 ⟨y,H2,I2,r2,q2⟩=>
  thn (ho pins s2 σ H2 x y v u _ I2 r1 r2 q2) fun d s3 ⟨z,H3,I3,r3,k,e,q3⟩=>?_)) hm
 subst e;cases r3;refine u6Y ?_;cases k with
 | false=>exact ite_ff ⟨.bl false,H3,I3,rfl,q3⟩
 | true=>exact ite_tt (chain_last (thn (hc pins s3 σ H3 _ I3 q3) fun w' s4 ⟨z',H4,I4,r4,q4⟩=>ho' pins s4 σ H4 y z' u w' Q I4 r2 r4 q4))
theorem z4s:(u4L:Nat)<2^63:=by rw[u4Q];decide
theorem zX:OpR X (binaryOp .Add) (fun x y H Q=>∃i j,x=.str i/\y=.str j/\i.length+j.length<=u4L/\Q (.str (i++j)) H):=by
 intro pins s σ H x y v u Q I rx ry h;obtain⟨i,j,rfl,rfl,hz,q⟩:=h;obtain⟨t,rfl⟩:=rx;obtain⟨t',rfl⟩:=ry;exact add_str (fun t' tk=>⟨.str (i++j),H,I.tok _,⟨_,rfl⟩,q⟩) hz
theorem z8N {x:V} {us:List Value} (r:Vals [x] us):∃u,us=[u]/\RelV x u:=by
 cases r with
 | cons r1 r2=>cases r2;exact⟨_,rfl,r1⟩
theorem y6d {x y:V} {us:List Value} (r:Vals [x,y] us):∃u w',us=[u,w']/\RelV x u/\RelV y w':=by
 cases r with
 | cons r1 r2=>
  cases r2 with
  | cons r3 r4=>cases r4;exact⟨_,_,rfl,r1,r3⟩
theorem y1T (hc:X.calm=true):CallR X (.builtin "min") (fun xs H Q=>∃i j,xs=[.int i,.int j]/\Q (.int (if j<i then j else i)) H):=by
 intro pins s σ H xs us Q I r h;obtain⟨i,j,rfl,q⟩:=h;obtain⟨u,w',rfl,⟨t,rfl⟩,⟨t',rfl⟩⟩:=y6d r;refine min_two_ints (I.ok.hd hc) fun h' tk k=>⟨_,H,I.kept k,?_,q⟩
 by_cases hj:j<i
 ·rw[if_pos hj,if_pos hj];exact⟨_,rfl⟩
 ·rw[if_neg hj,if_neg hj];exact⟨_,rfl⟩
theorem zx:CallR X (.type "str") (fun xs H Q=>∃i,xs=[.int i]/\i.natAbs.log2<1920/\Q (.str (toString i)) H):=by
 intro pins s σ H xs us Q I r h;obtain⟨i,rfl,hz,q⟩:=h;obtain⟨u,rfl,t,rfl⟩:=z8N r;exact PySem.P.str_of_int hz ⟨.str _,H,I.tok _,⟨_,rfl⟩,q⟩
end
structure ObjM (h:Heap) (x dx C:Addr) (mA:Str->Option Value):Prop where
 obj:h.get? x=some (u6b C dx)
 ns:h.Ns1 dx mA
 ne:dx≠x
theorem y0R {h:Heap} {dx:Addr} {mA:Str->Option Value} (n:h.Ns1 dx mA):∃od,h.get? dx=some od/\∀name,PySem.W.lookIn name od=some (mA name):=by
 obtain⟨o,es,ep,ho,hd,hk,_,hm⟩:=n;refine⟨o,ho,fun name=>?_⟩;have e:=hm name;unfold nsFind findBy at e;rw[←Array.find?_toList] at e;unfold PySem.W.lookIn;rw[hd];dsimp only;split
 ·rename_i y q
  rw[q] at e;exact congrArg some e
 ·rename_i q
  rw[q] at e;have a:es.toList.any (·.refKey)=false:=by
   rw[List.any_eq_false];intro y hy;obtain⟨z,t,hkey⟩:=hk y (Array.mem_toList_iff.mp hy);simp [DictEntry.refKey,hkey]
  have a':¬es.toList.any (·.refKey)=true:=by rw[a];exact u4i
  rw[if_neg a'];exact congrArg some e
theorem ObjM.look {h:Heap} {x dx C:Addr} {mA:Str->Option Value} (I:ObjM h x dx C mA):∃od,PySem.W.InstAt h x (u6b C dx) C (some od)/\∀name,PySem.W.lookIn name od=some (mA name):=
 let ⟨od,ho,hl⟩:=y0R I.ns
 ⟨od,⟨I.obj,rfl,rfl,ho⟩,hl⟩
section
variable {prog:Program} {w:World} {A:Around} {E:Value->Shared->Prop} {s:Shared} {K:u3q} {x dx C f:Addr} {mA:Str->Option Value} {name:Str} {v:Value}
theorem y4q {expr:Bool} {Q:Value->Shared->Prop} (X:K.In s.heap) (I:ObjM s.heap x dx C mA) (hg:PySem.W.plainGet K C name=true) (hh:PySem.W.hasDictIn K C=true)
  (ha:u5r K (.ref C) name=some none) (hv:mA name=some v) (hv':PySem.W.handedIn v=true) (h:Q v { s with toks:=s.toks+1 }) :
  wpAny (model prog w) A (getAttr (.ref x) name expr) Q E s:=by
 obtain⟨od,J,hl⟩:=I.look;exact PySem.W.get_value X J (PySem.W.plainGet_of hg).1 (PySem.W.findObj_own hh ha rfl (by rw[hl,hv])) hv' h
theorem y2z {pl:Sem Bool} {Q:Value×List Value->Shared->Prop} (X:K.In s.heap) (I:ObjM s.heap x dx C mA) (hg:PySem.W.plainGet K C name=true)
  (hf:u5r K (.ref C) name=some (some (.ref f))) (ht:PySem.W.isFn K (.ref f)=true) (hv:mA name=none) (h:Q (.ref f,[.ref x]) s) :
  wpAny (model prog w) A (getMethod (.ref x) name pl) Q E s:=by
 obtain⟨od,J,hl⟩:=I.look;exact PySem.W.method_fn X J (PySem.W.plainGet_of hg).1 (PySem.W.plainGet_of hg).2 hf (beq_iff_eq.mp ht) (by show (PySem.W.lookIn name od).map (·.isSome)=some false;rw[hl,hv];rfl) h
theorem y4H {ns:List Str} {Q:Unit->Shared->Prop} (X:K.In s.heap) (I:ObjM s.heap x dx C mA)
  (hs:u5r K (.ref C) "__setattr__" = some (some (.builtin "object.__setattr__"))) (hp:PySem.W.plainOver K C=true) (ht:PySem.W.takerIn K C name=some none) (hh:PySem.W.hasDictIn K C=true)
  (hw:PySem.Within mA ns) (hsz:ns.length<=u4L)
  (h:∀h',ObjM h' x dx C (fun y=>if y=name then some v else mA y)->u5x dx s.heap h'->Q () { s with heap:=h',toks:=s.toks+2 }) :
  wpAny (model prog w) A (setAttr (.ref x) name v) Q E s:=by
 obtain⟨od,J,hl⟩:=I.look;refine PySem.W.set_plain X J hs (PySem.W.osa_open (s:={ s with toks:=s.toks+1 }) (r:=none) X J hp ht fun b=>?_);obtain⟨cd,hc,hd'⟩:=PySem.W.any_some hh;have hx:s.heap.get? x=some ⟨.ref C,some dx,.plain,#[]⟩:=I.obj;refine u3r (u3u (u3r (u3r (wpAny_loadPart hx (u3r (PySem.W.Looks.here (s:={ s with toks:=s.toks+1 }) (PySem.W.looks_clsIn X hc) ?_))))));rw[hd'];refine u3u (a:=some dx) (u3r (u3u (u3r ?_)));refine wpAny_nsSet1 (s:={ s with toks:=s.toks+1 }) I.ns fun h' hn2 hs2=>?_;obtain⟨oD,esD,epD,hoD,hdD,hcD⟩:=hn2.count (PySem.Within.cons name v hw);refine u3r (wpAny_lookBehind hoD (by rw[hdD];exact pastItsLine_dict (u5I hcD (by rw[u3x];omega))) ?_);exact u3u (h _ ⟨(hs2.2 _ (Ne.symm I.ne)).trans I.obj,hn2,I.ne⟩ hs2)
theorem y2i {R:Result->Shared->Prop} {vs:List Value} {kw:List (Str×Value)} (X:K.In s.heap) (hm:u6d K C=true)
  (hi:u5r K (.ref C) "__init__" = some (some (.ref f))) (hf:PySem.W.typeIn K (.ref f)=some (.type "function"))
  (h:codeAny (model prog w) (A.under (.builtin "type.__call__" ⟨.ref C::vs,kw⟩)) (.call (.ref f) ⟨.ref (s.heap.objs.size+1)::vs,kw⟩) (PySem.W.InitBack (s.heap.objs.size+1) R)
   { s with heap:=(s.heap.push u5p).push (u6b C s.heap.objs.size) }) :
  codeAny (model prog w) A (.call (.ref C) ⟨vs,kw⟩) R s:=by
 obtain⟨hh,g,d,t,os⟩:=s;exact PySem.W.make_core (PySem.W.makes_of X hm) (PySem.W.looks_findIn X hi) (fun self=>PySem.W.bind_fn X self hf) (.inl rfl) h
end
noncomputable def vL (f:Str) (v:V):List (Str×V)->List (Str×V)
  | []=>[(f,v)]
  | (g,x)::r=>if g=f then (g,v)::r else (g,x)::vL f v r
theorem z0q (f g:Str) (v:V):∀fs:List (Str×V),(vL f v fs).lookup g=if g=f then some v else fs.lookup g
  | []=>by
    show List.lookup g [(f,v)]=_;by_cases h:g=f
    · have hb:(g == f)=true:=beq_iff_eq.mpr h;simp only [List.lookup,hb,if_pos h]
    · have hb:(g == f)=false:=beq_eq_false_iff_ne.mpr h;simp only [List.lookup,hb,if_neg h]
  | (k,x)::r=>by
    have ih:=z0q f g v r;rw[show vL f v ((k,x)::r)=(if k=f then (k,v)::r else (k,x)::vL f v r) from rfl];by_cases hk:k=f
    · rw[if_pos hk];by_cases h:g=k
      · have hb:(g == k)=true:=beq_iff_eq.mpr h;simp only [List.lookup,hb,if_pos (h.trans hk)]
      · have hb:(g == k)=false:=beq_eq_false_iff_ne.mpr h;simp only [List.lookup,hb,if_neg (fun e:g=f=>h (e.trans hk.symm))]
    · rw[if_neg hk];by_cases h:g=k
      · have hb:(g == k)=true:=beq_iff_eq.mpr h;simp only [List.lookup,hb,if_neg (fun e:g=f=>hk (h.symm.trans e))]
      · have hb:(g == k)=false:=beq_eq_false_iff_ne.mpr h;simp only [List.lookup,hb];exact ih
theorem z0t (f:Str) (v:V):∀fs:List (Str×V),f∈(vL f v fs).map (·.1)/\∀g,g∈fs.map (·.1)->g∈(vL f v fs).map (·.1)
  | []=>⟨by simp [vL],fun g h=>by simp at h⟩
  | (k,x)::r=>by
    obtain⟨i1,i2⟩:=z0t f v r;rw[show vL f v ((k,x)::r)=(if k=f then (k,v)::r else (k,x)::vL f v r) from rfl];by_cases hk:k=f
    · rw[if_pos hk];subst hk;exact⟨by simp,fun g h=>by simpa using h⟩
    · rw[if_neg hk];refine⟨?_,fun g h=>?_⟩
      · rw[u4j];exact u4Z _ i1
      · rw[u4j] at h ⊢;rcases u3w.mp h with e|e
        · exact u3w.mpr (.inl e)
        · exact u4Z _ (i2 g e)
theorem z0s (f:Str) (v:V):∀fs:List (Str×V),(vL f v fs).length<=fs.length+1
  | []=>by simp [vL]
  | (k,x)::r=>by
    have ih:=z0s f v r;rw[show vL f v ((k,x)::r)=(if k=f then (k,v)::r else (k,x)::vL f v r) from rfl];by_cases hk:k=f
    · rw[if_pos hk,u3x,u3x];omega
    · rw[if_neg hk,u3x,u3x];omega
theorem RelO.some_of {v:V} {o:Option Value} (r:RelO (some v) o):∃u,o=some u/\RelV v u:=by
 cases o with
 | none=>exact (show False from r).elim
 | some u=>exact⟨u,rfl,r⟩
theorem RelO.none_of {o:Option Value} (r:RelO none o):o=none:=by
 cases o with
 | none=>rfl
 | some u=>exact (show False from r).elim
theorem y0e {v:V} {u:Value} (r:RelV v u):PySem.W.handedIn u=true:=by
 cases v with
 | non=>cases (show u=u6W from r);rfl
 | bl b=>cases (show u=Value.bool b from r);rfl
 | int i=>obtain⟨t,e⟩:=(show ∃t,u=Value.int i t from r);cases e;rfl
 | str x=>obtain⟨t,e⟩:=(show ∃t,u=Value.str x t from r);cases e;rfl
 | byt b=>obtain⟨t,e⟩:=(show ∃t,u=Value.bytes b t from r);cases e;rfl
 | flt b=>obtain⟨t,e⟩:=(show ∃t,u=Value.float b t from r);cases e;rfl
 | ref a=>cases (show u=u4J a from r);rfl
 | ty n=>cases (show u=Value.type n from r);rfl
section
variable {P:Program} {w:World} {H H':Hp} {h h':Heap} {a C dx:Addr} {fs fs':List (Str×V)}
theorem z3O (hok:HOk P w H h) (e:H a=some (.ins C dx fs)):∃mA,ObjM h a dx C mA/\(∀f,RelO (fs.lookup f) (mA f))/\PySem.Within mA (fs.map (·.1))/\fs.length<=1000/\H dx=some (.own a):=by
 obtain⟨d,z,ne,ob,mA,n,r,q⟩:=(show ObjOk P w H h a (.ins C dx fs) from hok a _ e)
 exact⟨mA,⟨ob,n,ne⟩,r,q,z,d⟩
end
structure Cls (K:u3q) (C:Addr):Prop where
 pg:PySem.W.plainGet K C Str.empty=true
 hd:PySem.W.hasDictIn K C=true
 po:PySem.W.plainOver K C=true
 sa:u5r K (.ref C) "__setattr__" = some (some (.builtin "object.__setattr__"))
theorem Cls.get {K:u3q} {C:Addr} (c:Cls K C) (f:Str):PySem.W.plainGet K C f=true:=c.pg
noncomputable def NoAttr (K:u3q) (C:Addr) (f:Str):Prop:=u5r K (.ref C) f=some none
theorem NoAttr.taker {K:u3q} {C:Addr} {f:Str} (n:NoAttr K C f):PySem.W.takerIn K C f=some none:=by
 unfold PySem.W.takerIn;rw[show u5r K (.ref C) f=some none from n];rfl
structure Meth (K:u3q) (C:Addr) (m:Str) (f:Addr):Prop where
 at_:u5r K (.ref C) m=some (some (.ref f))
 fn:PySem.W.isFn K (.ref f)=true
 kp:u5L K (.ref f)=true
section
variable {X:Cx} {pins:List (Addr×Obj)} {σ:St} {H:Hp} {s:Shared} {a C dx:Addr} {fs:List (Str×V)} {f:Str} {v:V} {A:Around} {E:Value->Shared->Prop}
theorem z2E {b:Bool} {Q:Value->Shared->Prop} (I:Inv X pins σ H s) (e:H a=some (.ins C dx fs)) (c:Cls X.K C) (n:NoAttr X.K C f) (l:fs.lookup f=some v)
  (h:∀u s',Inv X pins σ H s'->RelV v u->Q u s'):wpAny (model X.prog X.w) A (getAttr (.ref a) f b) Q E s:=by
 obtain⟨mA,O,r,_,_,_⟩:=z3O I.hok e;obtain⟨u,hu,ru⟩:=RelO.some_of (v:=v) (o:=mA f) (by rw[←l];exact r f);exact y4q I.kIn O (c.get f) c.hd n hu (y0e ru) (h u _ (I.tok _) ru)
theorem w8 {m:Str} {g:Addr} {pl:Sem Bool} {Q:Value×List Value->Shared->Prop} (I:Inv X pins σ H s) (e:H a=some (.ins C dx fs)) (c:Cls X.K C) (k:Meth X.K C m g) (l:fs.lookup m=none)
  (h:Q (.ref g,[.ref a]) s):wpAny (model X.prog X.w) A (getMethod (.ref a) m pl) Q E s:=by
 obtain⟨mA,O,r,_,_,_⟩:=z3O I.hok e;have hn:mA m=none:=RelO.none_of (by rw[←l];exact r m);exact y2z I.kIn O (c.get m) k.at_ k.fn hn h
theorem z1q {y:V} {u:Value} {Q:Unit->Shared->Prop} (I:Inv X pins σ H s) (e:H a=some (.ins C dx fs)) (c:Cls X.K C) (n:NoAttr X.K C f) (hl:fs.length<1000) (ry:RelV y u)
  (h:∀s',Inv X pins σ (upd H a (.ins C dx (vL f y fs))) s'->Q () s'):wpAny (model X.prog X.w) A (setAttr (.ref a) f u) Q E s:=by
 obtain⟨mA,O,r,wi,_,ho⟩:=z3O I.hok e;have hz:(fs.map (·.1)).length<=u4L:=by rw[u3z,u4Q];omega
 refine y4H I.kIn O c.sa c.po n.taker c.hd wi hz fun h' O' sb=>h _ ?_;have hd:∃o,h'.get? dx=some o:=let ⟨o,_,_,e',_⟩:=O'.ns;⟨o,e'⟩;refine I.write (x:=a) (e:=dx) (by rw[e];exact True.intro) (.inr ho) (fun b q hb z=>(sb.2 b hb).trans z) hd ?_;refine⟨by rw[zb O.ne];exact ho,?_,O.ne,O'.obj,_,O'.ns,fun g=>?_,fun g hg=>?_⟩
 ·have:=z0s f y fs;omega
 ·show RelO ((vL f y fs).lookup g) (if g=f then some u else mA g);rw[z0q];by_cases q:g=f
  ·rw[if_pos q,if_pos q];exact ry
  ·rw[if_neg q,if_neg q];exact r g
 ·by_cases q:g=f
  ·rw[q];exact (z0t f y fs).1
  ·refine (z0t f y fs).2 g (wi g fun z=>hg ?_);show (if g=f then some u else mA g)=none;rw[if_neg q];exact z
theorem Inv.made (I:Inv X pins σ H s):Inv X pins σ (upd (upd H s.heap.objs.size (.own (s.heap.objs.size+1))) (s.heap.objs.size+1) (.ins C s.heap.objs.size []))
  { s with heap:=(s.heap.push u5p).push (u6b C s.heap.objs.size) }:=by
 have e1:(s.heap.push u5p).get? s.heap.objs.size=some u5p:=u4C s.heap rfl;have e2:((s.heap.push u5p).push (u6b C s.heap.objs.size)).get? (s.heap.objs.size+1)=some (u6b C s.heap.objs.size):=by
  have:=u4C (s.heap.push u5p) (o:=u6b C s.heap.objs.size) rfl;rwa [Heap.size_push] at this
 have e3:(s.heap.push u5p).Ns s.heap.objs.size (fun _=>none):=⟨u5p,#[],_,e1,rfl,(fun e he=>absurd he (by simp)),fun _=>rfl⟩
 have I1:=I.laid (a:=s.heap.objs.size) (o:=.own (s.heap.objs.size+1)) (h':=s.heap.push u5p) (t':=s.toks) (fun b u q=>u3v _ q) (u3y _) ⟨_,e1⟩;refine I1.laid (a:=s.heap.objs.size+1) (o:=.ins C s.heap.objs.size []) (t':=s.toks) (fun b u q=>u3v _ q) (Nat.le_of_eq (Heap.size_push _ _)) ?_;have ne:s.heap.objs.size≠s.heap.objs.size+1:=u4c (Nat.lt_succ_self _);refine⟨by rw[zb ne,zH],u4q _,ne,e2,fun _=>none,(Heap.Ns1.of_empty e3).at fun o q=>u3v _ q,fun _=>True.intro,fun y hy=>absurd rfl hy⟩
theorem y5F {prog:Program} {w:World} {env:Env} {e:Expr} {f:Str} {pos:Pos} {s:Shared} {Q:Value->Shared->Prop} (hb:attributeBase e f env (eval e env)=eval e env)
  (h:wpAny (model prog w) A (eval e env) (fun o s₁=>wpAny (model prog w) A (getAttr o f true) Q E s₁) E s):wpAny (model prog w) A (eval (.Attribute e f pos) env) Q E s:=
 Attribute_any_ h (by rw[arm_eval_Attribute,hb])
end
noncomputable def y7N (K:u3q) (ta:TE) (f:Str):TE:=fun σ H Q=>ta σ H fun x H1=>∃a C dx fs v,x=.ref a/\H1 a=some (.ins C dx fs)/\Cls K C/\NoAttr K C f/\fs.lookup f=some v/\Q v H1
noncomputable def y7R (K:u3q) (ta tv:TE) (f:Str):TS:=fun D σ H=>tv σ H fun y H1=>ta σ H1 fun x H2=>∃a C dx fs,x=.ref a/\H2 a=some (.ins C dx fs)/\Cls K C/\NoAttr K C f/\fs.length<1000/\
 D.nx σ (upd H2 a (.ins C dx (vL f y fs)))
noncomputable def y7d (X:Cx) (op:Operator) (rd:V->V->Hp->VK->Prop):Prop:=
 ∀(pins:List (Addr×Obj)) (s:Shared) (σ:St) (H:Hp) (x y:V) (u v:Value) (Q:VK),Inv X pins σ H s->RelV x u->RelV y v->rd x y H Q->wpAny (model X.prog X.w) X.A (inplaceOp op u v) (EP X pins σ Q) X.xe s
noncomputable def z9n (K:u3q) (ta tv:TE) (rd:V->V->Hp->VK->Prop) (f:Str):TS:=fun D σ H=>ta σ H fun x H1=>∃a C dx fs v,x=.ref a/\H1 a=some (.ins C dx fs)/\Cls K C/\NoAttr K C f/\fs.lookup f=some v/\
 tv σ H1 fun y H2=>rd v y H2 fun z H3=>∃dx' fs',H3 a=some (.ins C dx' fs')/\fs'.length<1000/\D.nx σ (upd H3 a (.ins C dx' (vL f z fs')))
section
variable {X:Cx} {o e value:Expr} {f:Str} {pos pos' tpos:Pos} {ta tv:TE}
theorem jC (he:PE X e ta) (hb:attributeBase e f X.env (eval e X.env)=eval e X.env):PE X (.Attribute e f pos) (y7N X.K ta f):=by
 intro pins s σ H Q I h;refine y5F hb (thn (he pins s σ H _ I h) fun u s1 ⟨x,H1,I1,rx,a,C,dx,fs,v,ex,ea,c,n,l,q⟩=>?_);subst ex;obtain rfl:u=u4J a:=rx;exact z2E I1 ea c n l fun u' s2 I2 ru=>⟨v,H1,I2,ru,q⟩
theorem z9t (ha:PE X o ta) (hv:PE X value tv) (hs:swapsWith value (some (.Attribute o f pos')) pos.line X.env=pure false):PS X (.Assign [.Attribute o f pos'] value pos) (y7R X.K ta tv f):=by
 intro pins s σ H D I h;refine plainObj_wpAny_Assign_Attribute (thn (hv pins s σ H _ I h) fun u s1 ⟨y,H1,I1,ry,q⟩=>thn (ha pins s1 σ H1 _ I1 q) fun ov s2 ⟨x,H2,I2,rx,a,C,dx,fs,ex,ea,c,n,l,q2⟩=>?_) hs;subst ex;obtain rfl:ov=u4J a:=rx;exact z1q I2 ea c n l ry fun s3 I3=>⟨σ,_,I3,q2⟩
theorem z4e {op:Operator} {rd:V->V->Hp->VK->Prop} (ha:PE X o ta) (hv:PE X value tv) (hop:y7d X op rd):PS X (.AugAssign (.Attribute o f tpos) op value pos) (z9n X.K ta tv rd f):=by
 intro pins s σ H D I h;refine wpAny_AugAssign_AttributeAny (thn (ha pins s σ H _ I h) fun ov s1 ⟨x,H1,I1,rx,a,C,dx,fs,v,ex,ea,c,n,l,q⟩=>?_);subst ex;obtain rfl:ov=u4J a:=rx;refine z2E I1 ea c n l fun u s2 I2 ru=>thn (hv pins s2 σ H1 _ I2 q) fun w3 s3 ⟨y,H2,I3,ry,q3⟩=>thn (hop pins s3 σ H2 v y u w3 _ I3 ru ry q3) fun w4 s4 ⟨z,H3,I4,rz,dx',fs',ea',l',q4⟩=>?_;exact z1q I4 ea' c n l' rz fun s5 I5=>⟨σ,_,I5,q4⟩
noncomputable def y7s:V->V->Hp->VK->Prop:=fun x y H Q=>∃i j,x=.int i/\y=.int j/\Q (.int (i+j)) H
theorem y3h:y7d X .Add y7s:=by
 rintro pins s σ H x y u v Q I rx ry ⟨i,j,rfl,rfl,q⟩;obtain⟨t,rfl⟩:=(show ∃t,u=Value.int i t from rx)
 obtain⟨t',rfl⟩:=(show ∃t',v=Value.int j t' from ry)
 exact PyProof.Rows.iadd_int ⟨.int (i+j),H,I.tok _,⟨_,rfl⟩,q⟩
end
section
variable {X:Cx} {pins:List (Addr×Obj)} {σ:St} {H:Hp} {s:Shared} {A:Around} {E:Value->Shared->Prop} {Q:Value->Shared->Prop} {c:Value} {b:Bool}
inductive TyOf (K:u3q) (H:Hp):V->Value->Prop where
 | non:TyOf K H .non (.type "NoneType")
 | bl (x:Bool):TyOf K H (.bl x) (.type "bool")
 | int (i:Int):TyOf K H (.int i) (.type "int")
 | str (x:Str):TyOf K H (.str x) (.type "str")
 | flt (x:UInt64):TyOf K H (.flt x) (.type "float")
 | lst {a:Addr} {xs:List V} (e:H a=some (.lst xs)):TyOf K H (.ref a) (.type "list")
 | frz {a:Addr} {o:Obj} {xs:List V} (e:H a=some (.frz o (.lst xs))):TyOf K H (.ref a) (.type "list")
 | tup {a:Addr} {xs:List V} (e:H a=some (.tup xs)):TyOf K H (.ref a) (.type "tuple")
 | dK {a:Addr} {kvs:List (Key×V)} (e:H a=some (.dK kvs)):TyOf K H (.ref a) (.type "dict")
 | dT {a:Addr} {kvs:List (List Key×V)} (e:H a=some (.dT kvs)):TyOf K H (.ref a) (.type "dict")
 | ins {a C dx:Addr} {fs:List (Str×V)} (e:H a=some (.ins C dx fs)) (cl:Cls K C) (ha:u5r K (.ref C) "__class__" = some (some (.builtin "object.__class__")))
   (hn:PySem.W.specialIn K (.builtin "object.__class__") "__get__" = some (some (.builtin "getset_descriptor.__get__"))) (htk:PySem.W.takesIn K (.builtin "object.__class__")=some true)
   (hm:PySem.W.mroIn K C (.type "object")=some true):TyOf K H (.ref a) (.ref C)
theorem z4y {x:V} {u t:Value} (I:Inv X pins σ H s) (rx:RelV x u) (ty:TyOf X.K H x t) (e:PySem.W.kitOne X.K t c=some b) (h:∀tk,Q (.bool b) { s with toks:=tk }) :
  wpAny (model X.prog X.w) A (call (.builtin "isinstance") [u,c]) Q E s:=by
 cases ty with
 | non=>cases (show u=u6W from rx);exact u5k PySem.W.kitx_none I.kIn True.intro e (fun z=>nomatch z) h
 | bl y=>cases (show u=Value.bool y from rx);exact u5k PySem.W.kitx_bool I.kIn True.intro e (fun z=>nomatch z) h
 | int i=>obtain⟨t,q⟩:=(show ∃t,u=Value.int i t from rx);cases q;exact u5k PySem.W.kitx_int I.kIn True.intro e (fun z=>nomatch z) h
 | str y=>obtain⟨t,q⟩:=(show ∃t,u=Value.str y t from rx);cases q;exact u5k PySem.W.kitx_str I.kIn True.intro e (fun z=>nomatch z) h
 | flt y=>obtain⟨t,q⟩:=(show ∃t,u=Value.float y t from rx);cases q;exact u5k PySem.W.kitx_float I.kIn True.intro e (fun z=>nomatch z) h
 | @lst a xs ea=>
  cases (show u=u4J a from rx);obtain⟨_,_,n,_,h1⟩:=(show ObjOk X.prog X.w H s.heap a (.lst xs) from I.hok a _ ea)
  exact u5k PySem.W.kitx_list I.kIn ⟨_,h1,rfl⟩ e (fun z=>nomatch z) h
 | @frz a ob xs ea=>
  cases (show u=u4J a from rx);obtain⟨_,_,_,n,_,h1⟩:=(show ObjOk X.prog X.w H s.heap a (.frz ob (.lst xs)) from I.hok a _ ea)
  exact u5k PySem.W.kitx_list I.kIn ⟨_,h1,rfl⟩ e (fun z=>nomatch z) h
 | @tup a xs ea=>
  cases (show u=u4J a from rx);obtain⟨_,_,_,p⟩:=(show ObjOk X.prog X.w H s.heap a (.tup xs) from I.hok a _ ea)
  obtain⟨o,h1,h2,_⟩:=p;exact u5k PySem.W.kitx_tuple I.kIn ⟨o,h1,h2⟩ e (fun z=>nomatch z) h
 | @dK a kvs ea=>
  cases (show u=u4J a from rx);obtain⟨_,_,vs,_,p⟩:=(show ObjOk X.prog X.w H s.heap a (.dK kvs) from I.hok a _ ea)
  obtain⟨o,es,ep,h1,h2,_⟩:=p;exact u5k PySem.W.kitx_dict I.kIn ⟨o,h1,h2.1⟩ e (fun z=>nomatch z) h
 | @dT a kvs ea=>
  cases (show u=u4J a from rx);obtain⟨_,_,xs,_,o,es,ep,h1,h2,_⟩:=(show ObjOk X.prog X.w H s.heap a (.dT kvs) from I.hok a _ ea)
  exact u5k PySem.W.kitx_dict I.kIn ⟨o,h1,h2.1⟩ e (fun z=>nomatch z) h
 | @ins a C dx fs ea cl ha hn htk hm=>
  cases (show u=u4J a from rx);obtain⟨mA,O,_⟩:=z3O I.hok ea;obtain⟨od,J,_⟩:=O.look;exact u5k (PySem.W.kitx_own (cl.get _) cl.hd ha hn htk hm) I.kIn J e (fun z=>nomatch z) h
end
structure Room (k:Nat) (A:Around):Prop where
 hd:A.handled=none
 dp:A.depth+3*k+5<recursionLimit
 un:A.units+16*k+200<cLine
theorem Room.mono {j k:Nat} {A:Around} (r:Room k A) (h:j<=k):Room j A:=⟨r.hd,by have:=r.dp;omega,by have:=r.un;omega⟩
theorem Room.deeper {k:Nat} {A:Around} (r:Room (k+1) A) (env:Env):Room k (A.deeper env):=
 ⟨r.hd,by have:=r.dp;show A.depth+1+3*k+5<_;omega,by have:=r.un;show A.units+3+16*k+200<_;omega⟩
theorem z8g {A:Around} {C:Addr} {us:List Value} {kw:List (Str×Value)}:(A.under (.builtin "type.__call__" ⟨.ref C::us,kw⟩)).depth=A.depth+1:=by
 first|rfl|simp [Around.under,Code.weight,Code.isCreation,Code.isGuard,Code.isCaller,Code.frames,Code.isFrame,guardIds]
theorem z8f {A:Around} {C:Addr} {us:List Value} {kw:List (Str×Value)}:(A.under (.builtin "type.__call__" ⟨.ref C::us,kw⟩)).units=A.units+1:=by
 first|rfl|simp [Around.under,Code.cUnits,Code.frames,Code.isFrame]
theorem Room.make {k:Nat} {A:Around} (r:Room (k+1) A) (C:Addr) (us:List Value) (kw:List (Str×Value)):Room k (A.under (.builtin "type.__call__" ⟨.ref C::us,kw⟩)):=
 ⟨r.hd,by have:=r.dp;rw[z8g];omega,by have:=r.un;rw[z8f];omega⟩
theorem Room.depth {k:Nat} {A:Around} (r:Room k A):A.depth<recursionLimit:=by have:=r.dp;omega
theorem Room.units {k:Nat} {A:Around} (r:Room k A):A.units+64<cLine:=by have:=r.un;omega
noncomputable def y1b:TA:=fun _ H Q=>Q [] H
noncomputable def z5t (ta:TE) (tr:TA):TA:=fun σ H Q=>ta σ H fun x H1=>tr σ H1 fun xs H2=>Q (x::xs) H2
section
variable {X:Cx} {e:Expr} {es:List Expr} {te:TE} {t:TA} {pos:Pos}
theorem zE:PA X [] y1b:=fun _ _ _ _ H Q I h=>Calls.spliced_nil ⟨[],H,I,.nil,h⟩
theorem zB (ha:PE X e te) (hr:PA X es t) (hs:u4W (e::es) X.env=(false,eval e X.env)::u4W es X.env:=by rfl):PA X (e::es) (z5t te t):=by
 intro pos pins s σ H Q I h;rw[hs];show wpAny _ _ (spliced ((false,eval e X.env)::backTo pos (u4W es X.env))) _ _ s;refine Calls.spliced_cons (thn (ha pins s σ H _ I h) fun u s1 ⟨x,H1,I1,r1,q1⟩=>?_);exact thn (hr pos pins s1 σ H1 _ I1 q1) fun us s2 ⟨xs,H2,I2,r2,q2⟩=>⟨x::xs,H2,I2,.cons r1 r2,q2⟩
noncomputable def y7E (t:TA):TE:=fun σ H Q=>t σ H fun xs H1=>xs.length<=u4L/\∀p,H1 p=none->Q (.ref p) (upd H1 p (.tup xs))
noncomputable def y7J (t:TA):TE:=fun σ H Q=>t σ H fun xs H1=>xs.length<=u4L/\∀p,H1 p=none->Q (.ref p) (upd H1 p (.lst xs))
theorem yF {x1} (h:PA X es t):PE X (.Tuple es x1 pos) (y7E t):=by
 intro pins s σ H Q I hq;refine wpAny_Tuple_spliced (thn (h pos pins s σ H _ I hq) fun us s1 ⟨xs,H1,I1,r,z,q⟩=>⟨by rw[←r.length];exact z,?_⟩);have hf:H1 s1.heap.objs.size=none:=I1.hok.fresh (u3y _);refine⟨.ref s1.heap.objs.size,upd H1 s1.heap.objs.size (.tup xs),I1.laid (t':=s1.toks) (fun b u e=>u3v _ e) (u3y _) ?_,rfl,q _ hf⟩;exact⟨z,us,r,⟨_,u4C _ rfl,rfl,_,rfl⟩⟩
theorem yV (h:PA X es t):PE X (.List es pos) (y7J t):=by
 intro pins s σ H Q I hq;refine wpAny_List_spliced (thn (h pos pins s σ H _ I hq) fun us s1 ⟨xs,H1,I1,r,z,q⟩=>⟨by rw[←r.length];exact z,?_⟩);have hf:H1 s1.heap.objs.size=none:=I1.hok.fresh (u3y _);refine⟨.ref s1.heap.objs.size,upd H1 s1.heap.objs.size (.lst xs),I1.laid (t':=s1.toks) (fun b u e=>u3v _ e) (u3y _) ?_,rfl,q _ hf⟩;exact⟨z,us,0,r,u4C _ rfl⟩
end
noncomputable abbrev Sp:=List V->Hp->VK->XK->Prop
noncomputable abbrev CXT:=List Env->Hp->Shared->XK->Value->Shared->Prop
structure Env0 (P:Program) (w:World) (K:u3q) (mg:Str->Option Value) (base:Heap) (A:Around) (outer:List Env) (s:Shared) (H:Hp):Prop where
 frames:A.frames=some outer
 mod:Mod K mg base
 bs:∀b o,base.get? b=some o->s.heap.get? b=some o/\H b=none
 bsz:base.objs.size<=s.heap.objs.size
 funs:s.heap.FunFrames base outer
 frf:∀b∈frs outer,H b=none
 hok:HOk P w H s.heap
 bare:AllBare s.gens
noncomputable def CE (outer:List Env) (P:Program) (w:World) (H:Hp) (s:Shared) (Q:VK) (u:Value) (s':Shared):Prop:=
 ∃v H',s'.os=s.os/\AllBare s'.gens/\Un (frs outer) [] H H' s.heap s'.heap/\HOk P w H' s'.heap/\RelV v u/\Q v H'
noncomputable def CR (CX:CXT) (outer:List Env) (P:Program) (w:World) (H:Hp) (s:Shared) (Q:VK) (E:XK) (r:Result) (s':Shared):Prop:=
 match r with
 | .ok (.ret u)=>CE outer P w H s Q u s'
 | .ok _=>False
 | .error e=>CX outer H s E e s'
structure FnOk (P:Program) (w:World) (K:u3q) (mg:Str->Option Value) (base:Heap) (CX:CXT) (k:Nat) (f:Addr) (fd:FuncData) (ps:List Str) (sp:Sp):Prop where
 len:∀vs H Q E,sp vs H Q E->vs.length=ps.length
 run:∀(A:Around) (outer:List Env) (s:Shared) (H:Hp) (args:Args) (us:List Value) (vs:List V) (Q:VK) (E:XK),Room k A->Env0 P w K mg base A outer s H->BindsTo s fd args (ps.zip us)->Vals vs us->sp vs H Q E->
  codeAny (model P w) A (.call (.ref f) args) (CR CX outer P w H s Q E) s
theorem FnOk.mono {P:Program} {w:World} {K:u3q} {mg:Str->Option Value} {base:Heap} {CX:CXT} {j k:Nat} {f:Addr} {fd:FuncData} {ps:List Str} {sp:Sp} (F:FnOk P w K mg base CX j f fd ps sp) (h:j<=k) :
  FnOk P w K mg base CX k f fd ps sp:=⟨F.len,fun A outer s H args us vs Q E hr=>F.run A outer s H args us vs Q E (hr.mono h)⟩
theorem Env0.make {P:Program} {w:World} {K:u3q} {mg:Str->Option Value} {base:Heap} {A:Around} {outer:List Env} {s:Shared} {H:Hp} (e:Env0 P w K mg base A outer s H) (C:Addr) (us:List Value) (kw:List (Str×Value)) :
  Env0 P w K mg base (A.under (.builtin "type.__call__" ⟨.ref C::us,kw⟩)) outer s H:=⟨by first|exact e.frames|(simpa [Around.under,Code.envs,Code.isFrame,pushEnvs] using e.frames),e.mod,e.bs,e.bsz,e.funs,e.frf,e.hok,e.bare⟩
section
variable {X:Cx} {pins:List (Addr×Obj)} {σ:St} {H:Hp} {s s':Shared}
theorem Inv.env0 (I:Inv X pins σ H s):Env0 X.prog X.w X.K X.mg X.base X.A X.stack s H:=
 ⟨I.ok.frames,I.ok.mod,I.bs,u5I I.ok.bsz I.sz,I.stack,I.stkFree,I.hok,I.bare⟩
theorem Inv.after {Q:VK} {u:Value} (I:Inv X pins σ H s) (h:CE X.stack X.prog X.w H s Q u s'):EP X pins σ Q u s':=by
 obtain⟨v,H',os,bare,un,hok,r,q⟩:=h;obtain⟨hh,g,d,t,os'⟩:=s';obtain rfl:os'=s.os:=os;exact⟨v,H',I.call (h':=hh) (g':=g) (d':=d) (t':=t) (ch:=[]) un hok bare (fun b z=>absurd z (by simp)),r,q⟩
end
noncomputable def z5u (sp:Sp) (dvs:List V) (E:XK) (t:TA):TE:=fun σ H Q=>t σ H fun vs H1=>sp (vs++dvs) H1 Q E
noncomputable def z5r (C:Addr) (m:Str) (sp:Sp) (dvs:List V) (E:XK) (ta:TE) (t:TA):TE:=fun σ H Q=>ta σ H fun x H1=>∃a dx fs,x=.ref a/\H1 a=some (.ins C dx fs)/\fs.lookup m=none/\
 t σ H1 fun vs H2=>sp (x::(vs++dvs)) H2 Q E
noncomputable def z9V (C:Addr) (sp:Sp) (dvs:List V) (E:XK) (t:TA):TE:=fun σ H Q=>t σ H fun vs H1=>∀x dx,H1 x=none->H1 dx=none->dx≠x->
 sp (.ref x::(vs++dvs)) (upd (upd H1 dx (.own x)) x (.ins C dx [])) (fun v H2=>v=.non/\Q (.ref x) H2) E
noncomputable def Binds (K:u3q) (fd:FuncData) (ps:List Str) (ds:List Value):Prop:=
 ∀(s:Shared) (us:List Value),K.In s.heap->(us++ds).length=ps.length->BindsTo s fd ⟨us,[]⟩ (ps.zip (us++ds))
theorem Binds.all {K:u3q} {fd:FuncData} {ps:List Str} (h:∀us:List Value,us.length=ps.length->bindArgs fd ⟨us,[]⟩=pure (ps.zip us)):Binds K fd ps []:=fun s us _ hl=>by
 rw[u5l] at hl ⊢;exact .of_eq (h us hl)
noncomputable def qL (CX:CXT) (X:Cx) (E:XK):Prop:=∀(pins:List (Addr×Obj)) (σ:St) (H:Hp) (s:Shared) (e:Value) (s':Shared),Inv X pins σ H s->CX X.stack H s E e s'->X.xe e s'
section
variable {X:Cx} {CX:CXT} {k:Nat} {f C:Addr} {fd:FuncData} {ps:List Str} {sp:Sp} {dvs:List V} {ds:List Value} {E:XK} {x m:Str} {p pos apos:Pos} {e o:Expr} {es:List Expr} {ta:TE} {t:TA}
theorem z9o {pins:List (Addr×Obj)} {σ:St} {H:Hp} {s:Shared} {Q:VK} {us:List Value} {vs:List V} (F:FnOk X.prog X.w X.K X.mg X.base CX k f fd ps sp) (hr:Room k X.A) (hb:Binds X.K fd ps ds) (hd:Vals dvs ds) (hx:qL CX X E)
  (I:Inv X pins σ H s) (r:Vals vs us) (h:sp (vs++dvs) H Q E):wpAny (model X.prog X.w) X.A (call (.ref f) us) (EP X pins σ Q) X.xe s:=by
 have r2:Vals (vs++dvs) (us++ds):=r.append hd;have hl:(us++ds).length=ps.length:=by rw[←r2.length];exact F.len _ _ _ _ h
 refine wpAny_call (codeAny_mono (F.run X.A X.stack s H ⟨us,[]⟩ (us++ds) (vs++dvs) Q E hr I.env0 (hb s us I.kIn hl) r2 h) fun r s' hq=>?_);cases r with
 | error e=>exact hx pins σ H s e s' I hq
 | ok fl=>
  cases fl with
  | ret u=>exact I.after hq
  | next=>exact u5c hq
  | brk=>exact u5c hq
  | cont=>exact u5c hq
theorem z9z (F:FnOk X.prog X.w X.K X.mg X.base CX k f fd ps sp) (hr:Room k X.A) (hg:Gl X x) (hm:X.mg x=some (.ref f)) (hk:u5L X.K (.ref f)=true) (hb:Binds X.K fd ps ds) (hd:Vals dvs ds) (hx:qL CX X E)
  (ha:PA X (e::es) t) (hdb:(x == ("__debug__" : Str))=false:=by decide) (he:u4W (e::es) X.env=(false,eval e X.env)::u4W es X.env:=by rfl) (hpl:(backTo pos (u4W es X.env)).any (·.1)=false:=by rfl) :
  PE X (.Call (.Name x p) (e::es) [] pos) (z5u sp dvs E t):=by
 intro pins s σ H Q I h;refine u6M (kH I hg hm ?_ hdb);refine PySem.W.callWith_K (h₀:=X.base) I.ok.mod.kin hk (thn (ha pos pins s σ H _ I h) fun us s1 ⟨vs,H1,I1,r,q⟩=>⟨I1.kIn,?_⟩) he hpl;exact z9o F hr hb hd hx I1 r q
theorem z9y {pl:Sem Bool} (he:PE X o ta) (c:Cls X.K C) (hm:Meth X.K C m f) (F:FnOk X.prog X.w X.K X.mg X.base CX k f fd ps sp) (hr:Room k X.A) (hb:Binds X.K fd ps ds) (hd:Vals dvs ds) (hx:qL CX X E) (ha:PA X (e::es) t)
  (hst:u4W (e::es) X.env=(false,eval e X.env)::u4W es X.env:=by rfl) (hpl:(backTo pos (u4W es X.env)).any (·.1)=false:=by rfl)
  (ht:eval (.Call (.Attribute o m apos) (e::es) [] pos) X.env=(do
   let ov ←eval o X.env
   standAt apos.atName
   let (f,first) ←holding [ov] (getMethod ov m pl)
   callWith pos f first (backTo pos (u4W (e::es) X.env)) (backToKw pos (keywordEach [] X.env))):=by rfl) :
  PE X (.Call (.Attribute o m apos) (e::es) [] pos) (z5r C m sp dvs E ta t):=by
 intro pins s σ H Q I h;refine PySem.W.methodCall_KW (pl:=pl) (thn (he pins s σ H _ I h) fun u s1 ⟨x,H1,I1,rx,a,dx,fs,ex,ea,l,q⟩=>?_) ht;subst ex;obtain rfl:u=u4J a:=rx;refine w8 I1 ea c hm l ?_;refine PySem.W.callWith_K (first:=[.ref a]) (h₀:=X.base) I.ok.mod.kin hm.kp (thn (ha pos pins s1 σ H1 _ I1 q) fun us s2 ⟨vs,H2,I2,r,q2⟩=>⟨I2.kIn,?_⟩) hst hpl;exact z9o (us:=.ref a::us) (vs:=.ref a::vs) F hr hb hd hx I2 (.cons rfl r) q2
theorem y2R {pl:Sem Bool} (he:PE X o ta) (c:Cls X.K C) (hm:Meth X.K C m f) (F:FnOk X.prog X.w X.K X.mg X.base CX k f fd ps sp) (hr:Room k X.A) (hb:Binds X.K fd ps ds) (hd:Vals dvs ds) (hx:qL CX X E)
  (ht:eval (.Call (.Attribute o m apos) [] [] pos) X.env=(do
   let ov ←eval o X.env
   standAt apos.atName
   let (f,first) ←holding [ov] (getMethod ov m pl)
   callWith pos f first (backTo pos (u4W [] X.env)) (backToKw pos (keywordEach [] X.env))):=by rfl) :
  PE X (.Call (.Attribute o m apos) [] [] pos) (z5r C m sp dvs E ta y1b):=by
 intro pins s σ H Q I h;refine PySem.W.methodCall_KW (pl:=pl) (thn (he pins s σ H _ I h) fun u s1 ⟨x,H1,I1,rx,a,dx,fs,ex,ea,l,q⟩=>?_) ht;subst ex;obtain rfl:u=u4J a:=rx;refine w8 I1 ea c hm l ?_;exact PySem.W.callWith_K0 (first:=[.ref a]) I1.kIn hm.kp (z9o (us:=[.ref a]) (vs:=[.ref a]) F hr hb hd hx I1 (.cons rfl .nil) q)
structure Mk (K:u3q) (C f:Addr):Prop where
 makes:u6d K C=true
 init:u5r K (.ref C) "__init__" = some (some (.ref f))
 fn:PySem.W.isFn K (.ref f)=true
 kp:u5L K (.ref C)=true
theorem z7S {pins:List (Addr×Obj)} {σ:St} {H:Hp} {s:Shared} {Q:VK} {us:List Value} {vs:List V} (M:Mk X.K C f) (F:FnOk X.prog X.w X.K X.mg X.base CX k f fd ps sp) (hr:Room (k+1) X.A) (hb:Binds X.K fd ps ds) (hd:Vals dvs ds)
  (hx:qL CX X E) (I:Inv X pins σ H s) (r:Vals vs us)
  (h:∀x dx,H x=none->H dx=none->dx≠x->sp (.ref x::(vs++dvs)) (upd (upd H dx (.own x)) x (.ins C dx [])) (fun v H2=>v=.non/\Q (.ref x) H2) E) :
  wpAny (model X.prog X.w) X.A (call (.ref C) us) (EP X pins σ Q) X.xe s:=by
 have hq:=h (s.heap.objs.size+1) s.heap.objs.size (I.hok.fresh (Nat.le_succ _)) (I.hok.fresh (u3y _)) (u4c (Nat.lt_succ_self _));have I2:=Inv.made (C:=C) I;have r2:Vals (V.ref (s.heap.objs.size+1)::(vs++dvs)) (u4J (s.heap.objs.size+1)::(us++ds)):=.cons rfl (r.append hd);have hl:(u4J (s.heap.objs.size+1)::us++ds).length=ps.length:=by
  have e:=r2.length;rw[F.len _ _ _ _ hq] at e;exact e.symm
 refine wpAny_call (y2i (f:=f) I.kIn M.makes M.init (beq_iff_eq.mp M.fn) (codeAny_mono (F.run _ X.stack _ _ ⟨u4J (s.heap.objs.size+1)::us,[]⟩ (u4J (s.heap.objs.size+1)::(us++ds)) _ _ E (hr.make C us [])
  (I2.env0.make C us []) (hb _ (u4J (s.heap.objs.size+1)::us) I2.kIn hl) r2 hq) fun r s' hq'=>?_))
 cases r with
 | error e=>exact hx pins σ _ _ e s' I2 hq'
 | ok fl=>
  cases fl with
  | ret u=>
   obtain⟨v,H',I3,rv,ev,q3⟩:=I2.after hq';subst ev;exact⟨rv,⟨V.ref (s.heap.objs.size+1),H',I3,rfl,q3⟩⟩
  | next=>exact u5c hq'
  | brk=>exact u5c hq'
  | cont=>exact u5c hq'
theorem y4V (M:Mk X.K C f) (F:FnOk X.prog X.w X.K X.mg X.base CX k f fd ps sp) (hr:Room (k+1) X.A) (hg:Gl X x) (hm:X.mg x=some (.ref C)) (hb:Binds X.K fd ps ds) (hd:Vals dvs ds) (hx:qL CX X E)
  (ha:PA X (e::es) t) (hdb:(x == ("__debug__" : Str))=false:=by decide) (he:u4W (e::es) X.env=(false,eval e X.env)::u4W es X.env:=by rfl) (hpl:(backTo pos (u4W es X.env)).any (·.1)=false:=by rfl) :
  PE X (.Call (.Name x p) (e::es) [] pos) (z9V C sp dvs E t):=by
 intro pins s σ H Q I h;refine u6M (kH I hg hm ?_ hdb);refine PySem.W.callWith_K (h₀:=X.base) I.ok.mod.kin M.kp (thn (ha pos pins s σ H _ I h) fun us s1 ⟨vs,H1,I1,r,q⟩=>⟨I1.kIn,?_⟩) he hpl;exact z7S M F hr hb hd hx I1 r q
theorem y2S (M:Mk X.K C f) (F:FnOk X.prog X.w X.K X.mg X.base CX k f fd ps sp) (hr:Room (k+1) X.A) (hg:Gl X x) (hm:X.mg x=some (.ref C)) (hb:Binds X.K fd ps ds) (hd:Vals dvs ds) (hx:qL CX X E)
  (hdb:(x == ("__debug__" : Str))=false:=by decide):PE X (.Call (.Name x p) [] [] pos) (z9V C sp dvs E y1b):=by
 intro pins s σ H Q I h;refine u6M (kH I hg hm ?_ hdb);exact PySem.W.callWith_K0 I.kIn M.kp (z7S (us:=[]) M F hr hb hd hx I .nil h)
end
noncomputable def PK (X:Cx) (kws:List Keyword) (t:TA):Prop:=
 ∀(pos:Pos) (pins:List (Addr×Obj)) (s:Shared) (σ:St) (H:Hp) (Q:List V->Hp->Prop),Inv X pins σ H s->t σ H Q->wpAny (model X.prog X.w) X.A (evalAll ((backToKw pos (keywordEach kws X.env)).map (·.2))) (AP X pins σ Q) X.xe s
section
variable {X:Cx} {CX:CXT} {k:Nat} {f C:Addr} {fd:FuncData} {ps ks:List Str} {sp:Sp} {E:XK} {x m:Str} {p pos apos kpos:Pos} {e o:Expr} {es:List Expr} {kws:List Keyword} {te ta:TE} {t tk:TA} {nm:Option Str}
theorem y5u:PK X [] y1b:=fun _ _ _ _ H Q I h=>wpAny_evalAll_nil ⟨[],H,I,.nil,h⟩
theorem y4O (ha:PE X e te) (hr:PK X kws t):PK X (⟨nm,e,kpos⟩::kws) (z5t te t):=by
 intro pos pins s σ H Q I h;show wpAny _ _ (evalAll ((do let v ←eval e X.env;standAt pos;pure v)::(backToKw pos (keywordEach kws X.env)).map (·.2))) _ _ s;refine wpAny_evalAll_cons (u3r (thn (ha pins s σ H _ I h) fun u s1 ⟨x,H1,I1,r1,q1⟩=>u3r (wpAny_standAt (u3u ?_))));exact thn (hr pos pins s1 σ H1 _ I1 q1) fun us s2 ⟨xs,H2,I2,r2,q2⟩=>⟨x::xs,H2,I2,.cons r1 r2,q2⟩
variable {g:List Value->List Value->List Value} {gV:List V->List V->List V}
end
structure FnScope (N P:List Str) (sc:Scope):Prop where
 kind:sc.kind=.function
 co:sc.isCoroutine=false
 gen:sc.isGenerator=false
 nd:N.Nodup
 pre:N.take P.length=P
 par:∀x∈P,sc.names.lookup x=some .local∨sc.names.lookup x=some .cell
 nofree:∀y∈sc.names,y.2≠.free
theorem z5e {kindOf:Str->Option NameKind} {x:Str}:∀ {binds:List (Str×Value)} {m:Str->Option Value},(∀v,(x,v)∉binds)->bindL kindOf binds m x=m x
  | [],_,_=>rfl
  | (n,v)::r,m,h=>by
    unfold bindL;rw[z5e fun w hw=>h w (u4Z _ hw)];split
    · have:x≠n:=by rintro rfl;exact h v u6L
      simp [this]
    · rfl
theorem z5g {kindOf:Str->Option NameKind} {x:Str}:∀ {binds:List (Str×Value)} {m:Str->Option Value},(∀v,(x,v)∉binds)->bindC kindOf binds m x=m x
  | [],_,_=>rfl
  | (n,v)::r,m,h=>by
    unfold bindC;rw[z5g fun w hw=>h w (u4Z _ hw)];split
    · rfl
    · have:x≠n:=by rintro rfl;exact h v u6L
      simp [this]
theorem z5f {kindOf:Str->Option NameKind} {x:Str} {v:Value}:∀ {P:List Str} {vs:List Value} {i:Nat} {m:Str->Option Value},P.Nodup->P[i]?=some x->vs[i]?=some v->kindOf x=some .local->
  bindL kindOf (P.zip vs) m x=some v
 | [],_,_,_,_,h,_,_=>by simp at h
 | _::_,[],_,_,_,_,h,_=>by simp at h
 | p::P,w::vs,0,m,nd,h1,h2,hk=>by
  simp at h1 h2;subst h1;subst h2;show bindL kindOf ((p,w)::P.zip vs) m p=_;unfold bindL;rw[z5e fun v hv=>(u6E.mp nd).1 (List.of_mem_zip hv).1,if_pos hk];simp
 | p::P,w::vs,i+1,m,nd,h1,h2,hk=>by
  show bindL kindOf ((p,w)::P.zip vs) m x=_;unfold bindL;exact z5f (i:=i) (u6E.mp nd).2 (by simpa using h1) (by simpa using h2) hk
theorem z5h {kindOf:Str->Option NameKind} {x:Str} {v:Value}:∀ {P:List Str} {vs:List Value} {i:Nat} {m:Str->Option Value},P.Nodup->P[i]?=some x->vs[i]?=some v->kindOf x≠some .local->
  bindC kindOf (P.zip vs) m x=some v
 | [],_,_,_,_,h,_,_=>by simp at h
 | _::_,[],_,_,_,_,h,_=>by simp at h
 | p::P,w::vs,0,m,nd,h1,h2,hk=>by
  simp at h1 h2;subst h1;subst h2;show bindC kindOf ((p,w)::P.zip vs) m p=_;unfold bindC;rw[z5g fun v hv=>(u6E.mp nd).1 (List.of_mem_zip hv).1,if_neg hk];simp
 | p::P,w::vs,i+1,m,nd,h1,h2,hk=>by
  show bindC kindOf ((p,w)::P.zip vs) m x=_;unfold bindC;exact z5h (i:=i) (u6E.mp nd).2 (by simpa using h1) (by simpa using h2) hk
noncomputable def j8 (N:List Str) (vs:List V):St:=vs.map some++List.replicate (N.length-vs.length) none
noncomputable def z1G (CX:CXT) (P:Program) (w:World) (K:u3q) (mg:Str->Option Value) (base:Heap) (N:List Str) (qual:Str) (scope:Scope) (f:Addr) (cd:Value) (A:Around) (outer:List Env) (s:Shared) (H:Hp) (E:XK):Cx where
 prog:=P
 w:=w
 K:=K
 mg:=mg
 base:=base
 A:=A.deeper (envOfC qual scope s.heap.objs.size f cd)
 N:=N
 s₀:=s
 H₀:=H
 env:=envOfC qual scope s.heap.objs.size f cd
 outer:=outer
 stack:=envOfC qual scope s.heap.objs.size f cd::outer
 ex:=[]
 calm:=true
 fn:=fun _=>true
 pn:=[]
 xe:=fun e s'=>wpAny (model P w) (A.deeper (envOfC qual scope s.heap.objs.size f cd)) (leaving (envOfC qual scope s.heap.objs.size f cd) e) (fun _ s''=>CX outer H s E e s'') (fun e' s''=>CX outer H s E e' s'') s'
theorem z8C {sc:Scope} {n:Nat} {x:Str} (h:sc.names.lookup x=some .cell):∃c,(cellsFrom n sc.names []).lookup x=some c:=by
 have q:=PySem.W.cellsFrom_some sc.names n [] (.inl h);exact Option.isSome_iff_exists.mp q
theorem y0Y {CX:CXT} {P:Program} {w:World} {K:u3q} {mg:Str->Option Value} {base:Heap} {N ps:List Str} {qual:Str} {scope:Scope} {f:Addr} {cd:Value} {A:Around} {outer:List Env} {s s1:Shared} {H:Hp} {E:XK} {us:List Value} {vs:List V}
  (S:FnScope N ps scope) (hd:A.handled=none) (e0:Env0 P w K mg base A outer s H) (hl:vs.length=ps.length) (r:Vals vs us)
  (x:InCallC s s.heap.objs.size (bindL (envOfC qual scope s.heap.objs.size f cd).kindOf (ps.zip us) fun _=>none) (cellsFrom (s.heap.objs.size+1) scope.names []) (bindC (envOfC qual scope s.heap.objs.size f cd).kindOf (ps.zip us) fun _=>none) s1) :
  Inv (z1G CX P w K mg base N qual scope f cd A outer s H E) [] (j8 N vs) H s1:=by
 have hpl:ps.length<=N.length:=by have:=congrArg List.length S.pre;rw[u5F] at this;omega
 obtain⟨h1,tk,rfl,hk⟩:=x.done;have noA:∀b:Addr,b∉(z1G CX P w K mg base N qual scope f cd A outer s H E).ex:=fun b z=>absurd (show b∈([]:List Addr) from z) (by simp);refine⟨⟨e0.mod,S.kind,rfl,rfl,u3y _,fun y z c h1 h2=>?_,fun y hy=>?_,fun y c _ h=>?_,fun _=>hd,Around.frames_deeper e0.frames,.inr ⟨rfl,rfl⟩,fun b z=>absurd z (noA b),e0.bs,e0.bsz,fun b _ _=>noA b,fun b z=>absurd z (noA b),e0.funs,e0.frf⟩,
  rfl,e0.bare,Un.kept hk,⟨_,x.toInCall.ns,fun i y v h1 h2 h3=>?_⟩,fun y c h=>⟨_,x.cell y c h⟩,e0.hok.fresh (u3y _),fun y c h=>?_,fun p hp=>absurd (show p∈([]:List (Addr×Obj)) from hp) (by simp),e0.hok.kept hk,?_⟩
 ·exact name_of_addr x.apart (PySem.mem_of_lookup h1) (PySem.mem_of_lookup h2)
 ·have hy:scope.names.lookup y=some .cell∨scope.names.lookup y=some .free:=hy;rcases hy with hy|hy
  ·exact z8C hy
  ·exact absurd rfl (S.nofree _ (PySem.mem_of_lookup hy))
 ·exact Nat.le_of_lt (x.above y c (PySem.mem_of_lookup h))
 ·have hi:i<vs.length:=by
   unfold j8 at h2;by_cases hi:i<vs.length
   ·exact hi
   ·rw[u4f (by simpa using hi)] at h2;rw[List.getElem?_replicate] at h2;split at h2 <;> cases h2
  have ha:vs[i]?=some v:=by
   unfold j8 at h2;rw[u4k (by simpa using hi),u4T] at h2;cases e:vs[i]? with
   | none=>rw[e] at h2;cases h2
   | some a=>rw[e] at h2;cases h2;rfl
  obtain⟨u,hu,rv⟩:=r.get ha;have hp:ps[i]?=some y:=by
   rw[←S.pre,List.getElem?_take_of_lt (by omega)];exact h1
  have ndP:ps.Nodup:=by rw[←S.pre];exact S.nd.sublist (List.take_sublist _ _)
  refine⟨u,rv,?_⟩;rcases S.par y (u4F hp) with k|k
  ·exact .inl ⟨k,z5f ndP hp hu k⟩
  ·obtain⟨c,e⟩:=z8C (n:=s.heap.objs.size+1) k;refine .inr ⟨.inl k,c,e,?_⟩;have q:=x.cell y c e;rw[z5h ndP hp hu (by show scope.names.lookup y≠_;rw[k];decide)] at q;exact q
 ·exact e0.hok.fresh (Nat.le_of_lt (x.above y c (PySem.mem_of_lookup h)))
 ·unfold j8;show _=N.length;rw[u3s,u3z,List.length_replicate];omega
theorem y3D {CX:CXT} {P:Program} {w:World} {K:u3q} {mg:Str->Option Value} {base:Heap} {k:Nat} {f:Addr} {name qual:Str} {params:Arguments} {body:List Stmt} {scope:Scope} {dV kV doc pm cdv ct oc:Value} {an od:Option Addr}
  {osl:Array (Option Value)} {N ps:List Str} {sp:Sp} (lk:K.lookup f=some ⟨oc,od,.func (u6F name qual params body scope dV kV doc pm an cdv ct),osl⟩) (hcd:PySem.W.codeIn K cdv qual=true) (S:FnScope N ps scope)
  (len:∀vs H Q E,sp vs H Q E->vs.length=ps.length)
  (hbody:∀(A:Around) (outer:List Env) (s:Shared) (H:Hp) (vs:List V) (Q:VK) (E:XK),Room k (A.deeper (envOfC qual scope s.heap.objs.size f cdv))->sp vs H Q E->
   ∃t,PSs (z1G CX P w K mg base N qual scope f cdv A outer s H E) body t/\t { nx:=fun _ H'=>Q .non H',rt:=Q } (j8 N vs) H) :
  FnOk P w K mg base CX (k+1) f (u6F name qual params body scope dV kV doc pm an cdv ct) ps sp:=by
 refine⟨len,fun A outer s H args us vs Q E hr e0 hb r hsp=>?_⟩;have hl:=len _ _ _ _ hsp;have KX:K.In s.heap:=e0.mod.kin.keeps fun b o e=>(e0.bs b o e).1;have lim:s.heap.NoLimit:=e0.mod.nolimit.keeps fun b o e=>(e0.bs b o e).1;have hkind:∀y∈ps.zip us,scope.names.lookup y.1=some .local∨(scope.names.lookup y.1=some .cell/\((cellsFrom (s.heap.objs.size+1) scope.names []).lookup y.1).isSome=true):=fun⟨n,v⟩ hy=>by
  rcases S.par n (List.of_mem_zip hy).1 with q|q
  ·exact .inl q
  ·exact .inr ⟨q,PySem.W.cellsFrom_some _ _ _ (.inl q)⟩
 refine codeAny_call_function hr.depth (KX _ _ lk) rfl S.co S.gen rfl (PySem.W.codeRec_of KX hcd) (hb _ _ _ _ ?_);refine wpAny_newFunctionEnv_cells S.kind hkind fun env he s1 x=>?_;subst he;refine⟨lim.keeps x.toInCall.keep,codeAny_func ?_⟩;obtain⟨t,ht,hq⟩:=hbody A outer s H vs Q E (hr.deeper _) hsp;have I:Inv (z1G CX P w K mg base N qual scope f cdv A outer s H E) [] (j8 N vs) H s1:=y0Y S hr.hd e0 hl r x;refine u5E (ht [] s1 (j8 N vs) H _ I hq) (fun fl s' hs=>?_) fun e s' hs=>hs;have fin:∀ {σ':St} {H':Hp} {v:V} {u:Value},Inv (z1G CX P w K mg base N qual scope f cdv A outer s H E) [] σ' H' s'->RelV v u->Q v H'->CE outer P w H s Q u s':=
  fun {σ' H' v u} J rv q=>⟨v,H',J.os,J.bare,J.base,J.hok,rv,q⟩
 cases fl with
 | ret u=>
  obtain⟨v,σ',H',J,rv,q⟩:=hs;exact fin J rv q
 | next=>
  obtain⟨σ',H',J,q⟩:=hs;exact fin (v:=V.non) (u:=u6W) J rfl q
 | brk=>
  obtain⟨_,_,_,q⟩:=hs;exact u5c q
 | cont=>
  obtain⟨_,_,_,q⟩:=hs;exact u5c q
section
variable {X:Cx} {x:Str} {p pos:Pos} {e:Expr} {es:List Expr} {t:TA} {id T:String} {r:List V->Hp->VK->Prop}
noncomputable def tCB (r:List V->Hp->VK->Prop) (t:TA):TE:=fun σ H Q=>t σ H fun vs H1=>r vs H1 Q
theorem zf (hc:CallR X (.builtin id) r) (hg:Gl X x) (hm:X.mg x=none) (hv:bootBuiltins x=some (.builtin id)) (ha:PA X (e::es) t) (hn:x≠ "__name__" :=by decide) (hdb:(x == ("__debug__" : Str))=false:=by decide)
  (he:u4W (e::es) X.env=(false,eval e X.env)::u4W es X.env:=by rfl) (hpl:(backTo pos (u4W es X.env)).any (·.1)=false:=by rfl):PE X (.Call (.Name x p) (e::es) [] pos) (tCB r t):=by
 intro pins s σ H Q I h;refine u6M (ki I hg hm hv ?_ hn hdb);exact PyProof.Rows.callWith_builtin1 (thn (ha pos pins s σ H _ I h) fun us s1 ⟨vs,H1,I1,r1,q1⟩=>hc pins s1 σ H1 vs us Q I1 r1 q1) he hpl
theorem zZ (hc:CallR X (.type T) r) (hg:Gl X x) (hm:X.mg x=none) (hv:bootBuiltins x=some (.type T)) (ha:PA X (e::es) t) (hn:x≠ "__name__" :=by decide) (hdb:(x == ("__debug__" : Str))=false:=by decide)
  (he:u4W (e::es) X.env=(false,eval e X.env)::u4W es X.env:=by rfl) (hpl:(backTo pos (u4W es X.env)).any (·.1)=false:=by rfl):PE X (.Call (.Name x p) (e::es) [] pos) (tCB r t):=by
 intro pins s σ H Q I h;refine u6M (ki I hg hm hv ?_ hn hdb);exact u5Z (thn (ha pos pins s σ H _ I h) fun us s1 ⟨vs,H1,I1,r1,q1⟩=>hc pins s1 σ H1 vs us Q I1 r1 q1) he hpl
end
end L2
namespace HT
open PySem PyProof.Rows
section
open PySem.SeqAt
open PySem.AutoSeq1 (wpAny_loadPart')
open PySem.MeetsSeq PySem.MeetsSeq2 PySem.MeetsSeq3
end
section
variable {prog:Program} {w:World} {A:Around} {E:Value->Shared->Prop} {s:Shared}
noncomputable def sIx (n d:Nat):Option Int->Nat
 | none=>d
 | some v=>if v<0 then (v+(n:Int)).toNat else min v.toNat n
theorem sIx_none (n d:Nat):sIx n d none=d:=rfl
theorem sIx_nat (n d k:Nat):sIx n d (some (k:Int))=min k n:=by
 show (if (k:Int)<0 then ((k:Int)+(n:Int)).toNat else min (k:Int).toNat n)=min k n;rw[if_neg (by omega),u6Z]
theorem y5m (n d:Nat) (hd:d<=n) (o:Option Int):sIx n d o<=n:=by
 cases o with
 | none=>exact hd
 | some v=>
  show (if v<0 then (v+(n:Int)).toNat else min v.toNat n)<=n;by_cases hv:v<0
  ·rw[if_pos hv];omega
  ·rw[if_neg hv];exact Nat.min_le_right _ _
theorem y1M (v:Int) (n d:Nat):(if v<0 then max (v+(n:Int)) 0 else min v (n:Int))=((sIx n d (some v):Nat):Int):=by
 show (if v<0 then max (v+(n:Int)) 0 else min v (n:Int))=(((if v<0 then (v+(n:Int)).toNat else min v.toNat n):Nat):Int)
 by_cases hv:v<0
 ·simp only [if_pos hv];omega
 ·simp only [if_neg hv];omega
theorem z9G (lo hi:Option Int) (n:Nat):Builtin.Slice.sliceAdjust lo hi 1 (n:Int)=(((sIx n 0 lo:Nat):Int),((sIx n n hi:Nat):Int)):=by
 have h1:¬((1:Int)<0):=by omega
 unfold Builtin.Slice.sliceAdjust;simp only [h1,if_false];refine Prod.ext ?_ ?_
 ·cases lo with
  | none=>rfl
  | some v=>exact y1M v n 0
 ·cases hi with
  | none=>rfl
  | some v=>exact y1M v n n
theorem z8c (i j:Nat):Builtin.Slice.slicePlaces (i:Int) (j:Int) 1=j-i:=by
 unfold Builtin.Slice.slicePlaces;have h1:(1:Int) > 0:=by omega
 simp only [h1,if_true,Int.ediv_one];split <;> omega
theorem z1o {v:Value} {o:Option Int} {Q:Option Int->Shared->Prop} (p:IsPart v o) (h:Q o s):wpAny (model prog w) A (Builtin.Slice.slicePartIndex v) Q E s:=by
 cases p with
 | none=>exact slicePart_none h
 | int i t=>exact slicePart_int h
theorem vI {sl:Addr} {vl vu:Value} {lo hi:Option Int} {n:Nat} {Q:Int×Int×Nat->Shared->Prop} (hs:s.heap.IsSliceOf sl vl vu .none) (pl:IsPart vl lo) (pu:IsPart vu hi)
  (h:Q (((sIx n 0 lo:Nat):Int),1,sIx n n hi-sIx n 0 lo) s):wpAny (model prog w) A (Builtin.Slice.sliceApplied (.ref sl) (pure (n:Int))) Q E s:=by
 obtain⟨os,hos,hcs,hds⟩:=id hs;unfold Builtin.Slice.sliceApplied Builtin.Slice.sliceFields;refine u3r (u3r (u5t hos hds (x:=vl) rfl (u3r (u5t hos hds (x:=vu) rfl (u3r (u5t hos hds (x:=.none) rfl (u3u ?_)))))));refine u3r (slicePart_none ?_);show wpAny _ _ (if ((1:Int) == 0)=true then _ else _) _ _ s;rw[if_neg (by decide)];refine u3r (z1o pl (u3r (z1o pu (u3r (u3u ?_)))));show wpAny _ _ (match Builtin.Slice.sliceAdjust lo hi 1 (n:Int) with|(lo,hi)=>pure (lo,(1:Int),Builtin.Slice.slicePlaces lo hi 1)) _ _ s;rw[z9G lo hi n];show wpAny _ _ (pure (((sIx n 0 lo:Nat):Int),(1:Int),Builtin.Slice.slicePlaces ((sIx n 0 lo:Nat):Int) ((sIx n n hi:Nat):Int) 1)) _ _ s;rw[z8c];exact u3u h
theorem y2P (xs:Array Value) (i k:Nat):((u6X k).filterMap fun (m:Nat)=>xs[((i:Int)+(m:Int)*1).toNat]?).toArray=((xs.toList.drop i).take k).toArray:=by
 have e:(fun (m:Nat)=>xs[((i:Int)+(m:Int)*1).toNat]?)=fun m=>xs[i+m]?:=by
  funext m;have:((i:Int)+(m:Int)*1).toNat=i+m:=by omega
  rw[this]
 rw[e];have:=pick_run xs i k;rw[List.filterMap_map] at this;have e2:((fun x=>xs[x]?)∘fun x=>i+x)=fun m=>xs[i+m]?:=rfl;rw[e2] at this;rw[this]
theorem getItem_tuple_cut {t sl:Addr} {items:Array Value} {vl vu:Value} {lo hi:Option Int} {Q:Value->Shared->Prop} (ht:IsTup s.heap t items) (hs:s.heap.IsSliceOf sl vl vu .none) (pl:IsPart vl lo) (pu:IsPart vu hi)
  (hw:¬(sIx items.size 0 lo=0/\sIx items.size items.size hi=items.size))
  (h:Q (.ref s.heap.objs.size) { s with heap:=s.heap.push { cls:=.type "tuple",data:=.seq ((items.toList.drop (sIx items.size 0 lo)).take (sIx items.size items.size hi-sIx items.size 0 lo)).toArray } })
  (hsz:items.size<=u4L):wpAny (model prog w) A (getItem (.ref t) (.ref sl)) Q E s:=by
 have htake:sizeOk (.seq ((items.toList.drop (sIx items.size 0 lo)).take (sIx items.size items.size hi-sIx items.size 0 lo)).toArray):=by
  show ((items.toList.drop (sIx items.size 0 lo)).take (sIx items.size items.size hi-sIx items.size 0 lo)).toArray.size<=u4L;rw[u4I,u5F,u4w,u4P];omega
 have hj:sIx items.size items.size hi<=items.size:=y5m _ _ (u3y _) hi;obtain⟨os,hos,hcs,hds⟩:=id hs;have hTs:s.TypeIs (.ref sl) "slice" :=⟨os,hos,hcs⟩
 unfold getItem
 try with_reducible refine wpAny_holding ?_
 first|refine u3r (u3u ?_)|skip
 refine u3r (wpAny_sequenceKey ht.typeIs (by decide) ?_);refine u3r (u5J (name:=u3t "__getitem__") ht.typeIs PyProof.Rows.slot_tuple_getitem
  (u5S PyProof.Rows.slot_tuple_getitem ht.typeIs entry_tuple_getitem ?_ (args_tuple_getitem _ _)))
 show wpAny _ _ (Builtin.Tuple.tupleItemsOf (.ref t) >>= _) _ _ s;refine u3r (tupleItemsOf_ ht ?_);refine u3r (wpAny_typeOf hTs ?_);rw[if_pos (by decide)];refine u3r (vI hs pl pu ?_);have hno:¬((((sIx items.size 0 lo:Nat):Int) == 0 && (1:Int) == 1 && (sIx items.size items.size hi-sIx items.size 0 lo) == items.size)=true):=by
  intro q;rw[u4a,u4a] at q;have q1:((sIx items.size 0 lo:Nat):Int)=0:=eq_of_beq q.1.1;have q2:sIx items.size items.size hi-sIx items.size 0 lo=items.size:=eq_of_beq q.2;exact hw ⟨by omega,by omega⟩
 show wpAny _ _ (if (((sIx items.size 0 lo:Nat):Int) == 0 && (1:Int) == 1 && (sIx items.size items.size hi-sIx items.size 0 lo) == items.size)=true then _ else _) _ _ s;rw[if_neg hno,y2P]
 first
  | exact u3r (m:=Builtin.Tuple.tupleExact _) (u4r (u3u ⟨_,rfl,u3u h⟩) htake)
  | exact u3r (m:=Builtin.Tuple.tupleExact _) (u4r (u3r (u3u (u3u ⟨_,rfl,u3u h⟩))) htake)
  | exact u3r (u3r (m:=Builtin.Tuple.tupleExact _) (u4r (u3u (u3u ⟨_,rfl,u3u h⟩)) htake))
  | exact u3r (u3r (m:=Builtin.Tuple.tupleExact _) (u4r (u3u ⟨_,rfl,u3u h⟩) htake))
end
end HT
namespace L2
open PySem PySem.Spec PyProof.Rows
noncomputable abbrev TO:=St->Hp->(Option Int->Hp->Prop)->Prop
noncomputable def PO (X:Cx) (e:Option Expr) (t:TO):Prop:=
 ∀(pins:List (Addr×Obj)) (s:Shared) (σ:St) (H:Hp) (Q:Option Int->Hp->Prop),Inv X pins σ H s->t σ H Q->
  wpAny (model X.prog X.w) X.A (evalPart e X.env) (fun u s'=>∃o H',Inv X pins σ H' s'/\IsPart u o/\Q o H') X.xe s
noncomputable def z9U:TO:=fun _ H Q=>Q none H
noncomputable def y5W (t:TE):TO:=fun σ H Q=>t σ H fun x H1=>∃i,x=.int i/\Q (some i) H1
theorem wX {ns:List Int}:∀ {us:List Value},Vals (ns.map V.int) us->IntsAre us ns:=by
 induction ns with
 | nil=>intro us r;rw[List.map_nil] at r;cases r;exact .nil
 | cons n ns ih=>
  intro us r;rw[u4j] at r;cases r with
  | cons r1 r2=>
   obtain⟨t,e⟩:=r1;subst e;exact .cons n t (ih r2)
section
variable {X:Cx} {e:Expr} {te:TE} {lo hi:Option Expr} {tl th:TO} {pos p2:Pos}
theorem kE:PO X none z9U:=by
 intro pins s σ H Q I h;rw[evalPart_none];exact u3u ⟨none,H,I,.none,h⟩
theorem xc (h:PE X e te):PO X (some e) (y5W te):=by
 intro pins s σ H Q I hw;rw[evalPart_some];refine thn (h pins s σ H _ I hw) fun u s1 ⟨x,H1,I1,r1,q1⟩=>?_;obtain⟨i,rfl,q⟩:=q1;obtain⟨t,rfl⟩:=r1;exact⟨some i,H1,I1,.int i t,q⟩
noncomputable def SlR (X:Cx) (r:V->Option Int->Option Int->Hp->VK->Prop):Prop:=
 ∀(pins:List (Addr×Obj)) (s:Shared) (σ:St) (H:Hp) (x:V) (v vl vu:Value) (lo hi:Option Int) (sl:Addr) (Q:VK),Inv X pins σ H s->RelV x v->s.heap.IsSliceOf sl vl vu .none->IsPart vl lo->IsPart vu hi->r x lo hi H Q->
  ∃T id,typeLookup (.type T) "__getitem__" = pure (some (.builtin id))/\s.TypeIs v T/\wpAny (model X.prog X.w) X.A (getItem v (.ref sl)) (EP X pins σ Q) X.xe s
noncomputable def tSl (r:V->Option Int->Option Int->Hp->VK->Prop) (te:TE) (tl th:TO):TE:=fun σ H Q=>te σ H fun x H1=>tl σ H1 fun l H2=>th σ H2 fun u H3=>r x l u H3 Q
theorem xU {r:V->Option Int->Option Int->Hp->VK->Prop} (hr:SlR X r) (he:PE X e te) (hl:PO X lo tl) (hu:PO X hi th):PE X (.Subscript e (.Slice lo hi none p2) pos) (tSl r te tl th):=by
 intro pins s σ H Q I h;refine Subscript_ (thn (he pins s σ H _ I h) fun v s1 ⟨x,H1,I1,r1,q1⟩=>?_);refine wpAny_Slice (thn (hl pins s1 σ H1 _ I1 q1) fun vl s2 ⟨l,H2,I2,pl,q2⟩=>thn (hu pins s2 σ H2 _ I2 q2) fun vu s3 ⟨u,H3,I3,pu,q3⟩=>?_);rw[evalPart_none];refine u3u ?_;have I4:Inv X pins σ H3 { s3 with heap:=s3.heap.push { cls:=.type "slice",data:=.fields #[vl,vu,.none] } }:=I3.kept (t':=s3.toks) fun b ob q=>u3v _ q;obtain⟨T,id,hT,ht,hg⟩:=hr pins { s3 with heap:=s3.heap.push { cls:=.type "slice",data:=.fields #[vl,vu,.none] } } σ H3 x v vl vu l u s3.heap.objs.size Q I4 r1 (Heap.IsSliceOf.new ..) pl pu q3;show wpAny (model X.prog X.w) X.A (subscriptTail e (.Slice lo hi none p2) v (.ref s3.heap.objs.size)) (EP X pins σ Q) X.xe { s3 with heap:=s3.heap.push { cls:=.type "slice",data:=.fields #[vl,vu,.none] } };exact tail_any (ops:=[.ref s3.heap.objs.size,v]) ht hT hg (by with_unfolding_all rfl)
noncomputable def z9K (xs:List V) (lo hi:Option Int):List V:=(xs.drop (HT.sIx xs.length 0 lo)).take (HT.sIx xs.length xs.length hi-HT.sIx xs.length 0 lo)
theorem z1H (xs:List V) (lo hi:Option Int):(z9K xs lo hi).length<=xs.length:=by
 unfold z9K;rw[u5F,u4w];omega
noncomputable def y7l (K:u3q):V->Option Int->Option Int->Hp->VK->Prop:=fun x lo hi H Q=>∃a xs,x=.ref a/\SqT K H a xs/\
 ¬(HT.sIx xs.length 0 lo=0/\HT.sIx xs.length xs.length hi=xs.length)/\∀p,H p=none->Q (.ref p) (upd H p (.tup (z9K xs lo hi)))
theorem y5i:SlR X (y7l X.K):=by
 intro pins s σ H x v vl vu lo hi sl Q I rx hs pl pu h;obtain⟨a,xs,rfl,hx,hw,q⟩:=h;cases rx;obtain⟨its,r,ht,hz⟩:=I.tuple hx;have hlen:its.toArray.size=xs.length:=by rw[u4I];exact r.length.symm
 refine⟨"tuple",_,PyProof.Rows.slot_tuple_getitem.lookup,ht.typeIs,?_⟩;refine HT.getItem_tuple_cut ht hs pl pu (by rw[hlen];exact hw) ?_ (by rw[hlen];exact hz);rw[hlen];refine⟨.ref s.heap.objs.size,_,I.laid (t':=s.toks) (o:=.tup (z9K xs lo hi)) (fun b ob q=>u3v _ q) (u3y _) ?_,rfl,q _ (I.hok.fresh (u3y _))⟩;exact⟨u5I (z1H xs lo hi) hz,_,(r.drop (HT.sIx xs.length 0 lo)).take (HT.sIx xs.length xs.length hi-HT.sIx xs.length 0 lo),IsTup.new _ _⟩
end
noncomputable def ixN (n:Nat) (i:Int):Option Nat:=if 0<=i then (if i<n then some i.toNat else none) else if -(n:Int)<=i then some (i+n).toNat else none
noncomputable def atI {α:Type} (xs:List α) (i:Int):Option α:=(ixN xs.length i).bind fun j=>xs[j]?
theorem y4i {n:Nat} {i:Int} {j:Nat} (h:ixN n i=some j):seqIndex? i n=some j/\j<n/\-(n:Int)<=i/\i<n:=by
 unfold ixN at h;by_cases h0:0<=i
 ·rw[if_pos h0] at h;by_cases h1:i<n
  ·rw[if_pos h1] at h;have e:i.toNat=j:=u5Y h;exact⟨by rw[seqIndex_of h0 h1,e],by omega,by omega,h1⟩
  ·rw[if_neg h1] at h;cases h
 ·rw[if_neg h0] at h;by_cases h1:-(n:Int)<=i
  ·rw[if_pos h1] at h;have e:(i+n).toNat=j:=u5Y h;exact⟨by rw[seqIndex_neg (by omega) h1,e],by omega,h1,by omega⟩
  ·rw[if_neg h1] at h;cases h
theorem z6i {α:Type} {xs:List α} {i:Int} {v:α} (h:atI xs i=some v):∃j,seqIndex? i xs.length=some j/\xs[j]?=some v/\j<xs.length/\-(xs.length:Int)<=i/\i<xs.length:=by
 unfold atI at h;cases e:ixN xs.length i with
 | none=>rw[e] at h;cases h
 | some j=>
  rw[e] at h;obtain⟨h1,h2,h3,h4⟩:=y4i e;exact⟨j,h1,h,h2,h3,h4⟩
theorem ze {α:Type} {xs:List α} {j:Nat} {v:α} (h:xs[j]?=some v):atI xs (j:Int)=some v:=by
 have hj:j<xs.length:=(u4K.mp h).1;have e:ixN xs.length (j:Int)=some j:=by
  unfold ixN;rw[if_pos (by omega),if_pos (by omega)];simp
 unfold atI;rw[e];exact h
noncomputable def y5K (b:Expr):Prop:=∀o i,subscripted b false o i=operate [o,i] (getItem o i)
noncomputable def IxR (X:Cx) (r:R2):Prop:=
 ∀(value slice:Expr) (pins:List (Addr×Obj)) (s:Shared) (σ:St) (H:Hp) (x y:V) (v u:Value) (Q:VK),Inv X pins σ H s->RelV x v->RelV y u->r x y H Q->
  subscripted slice false v u=operate [v,u] (getItem v u)->wpAny (model X.prog X.w) X.A (subscriptTail value slice v u) (EP X pins σ Q) X.xe s
noncomputable def MtR (X:Cx) (id:String) (r:V->List V->Hp->VK->Prop):Prop:=
 ∀(pins:List (Addr×Obj)) (s:Shared) (σ:St) (H:Hp) (x:V) (xs:List V) (v:Value) (us:List Value) (Q:VK),Inv X pins σ H s->RelV x v->Vals xs us->r x xs H Q->
  wpAny (model X.prog X.w) X.A (call (.builtin id) (v::us)) (EP X pins σ Q) X.xe s
section
variable {X:Cx} {a b:Expr} {ta tb:TE} {pos:Pos}
theorem zY {r:R2} (hr:IxR X r) (ha:PE X a ta) (hb:PE X b tb) (hs:y5K b):PE X (.Subscript a b pos) (tOp r ta tb):=by
 intro pins s σ H Q I h;exact Subscript_ (y7C ha hb I h fun v u s2 x y H2 I2 rx ry q=>hr a b pins s2 σ H2 x y v u Q I2 rx ry q (hs _ _))
noncomputable def y3Y (K:u3q):R2:=fun x y H Q=>∃p xs i v,x=.ref p/\y=.int i/\SqL K H p xs/\atI xs i=some v/\Q v H
noncomputable def y7o (K:u3q):R2:=fun x y H Q=>∃p xs i v,x=.ref p/\y=.int i/\SqT K H p xs/\atI xs i=some v/\Q v H
noncomputable def y7p:R2:=fun x y H Q=>∃z i c,x=.str z/\y=.int i/\z.length<=u4L/\atI z.cps.toList i=some c/\Q (.str ⟨#[c]⟩) H
theorem za:IxR X (y3Y X.K):=by
 intro value slice pins s σ H x y v u Q I rx ry h hs;obtain⟨p,xs,i,z,rfl,rfl,hq,he,q⟩:=h;cases rx;obtain⟨t,rfl⟩:=ry;obtain⟨its,r,pl,hz⟩:=I.list hq;obtain⟨j,h1,h2,h3,h4,h5⟩:=z6i he;obtain⟨w,ew,rw'⟩:=r.get h2;have hl:=r.length;have hn:=z4s;have fin:EP X pins σ Q w s:=⟨z,H,I,rw',q⟩
 by_cases h0:0<=i
 ·have hj:i.toNat=j:=by
   rw[seqIndex_of h0 h5] at h1;exact u5Y h1
  exact item_listR pl.isList h0 (by omega) (by rw[hj];simpa using ew) fin hs
 ·have hj:(i+(its.toArray.size:Int)).toNat=j:=by
   rw[seqIndex_neg (by omega) h4] at h1;rw[u4I,←hl];exact u5Y h1
  exact subscriptTail_builtinR (x:=w) pl.isList.typeIs slot_list_getitem.lookup
   (wpAny_getItem_list_neg (Q:=fun r s'=>r=w/\EP X pins σ Q r s') pl.isList (by omega) (by rw[u4I] <;> omega) (by omega) (by rw[hj];simpa using ew) ⟨rfl,fin⟩) hs
theorem zg:IxR X (y7o X.K):=by
 intro value slice pins s σ H x y v u Q I rx ry h hs;obtain⟨p,xs,i,z,rfl,rfl,hq,he,q⟩:=h;cases rx;obtain⟨t,rfl⟩:=ry;obtain⟨its,r,pl,hz⟩:=I.tuple hq;obtain⟨j,h1,h2,h3,h4,h5⟩:=z6i he;obtain⟨w,ew,rw'⟩:=r.get h2;have hl:=r.length;have hn:=z4s;have fin:EP X pins σ Q w s:=⟨z,H,I,rw',q⟩
 exact subscriptTail_builtinR (x:=w) pl.typeIs slot_tuple_getitem.lookup
  (getItem_tuple (j:=j) (Q:=fun r s'=>r=w/\EP X pins σ Q r s') pl (by omega) (by omega) (by rw[u4I,←hl];exact h1) (by simpa using ew) ⟨rfl,fin⟩) hs
theorem y3g:IxR X y7p:=by
 intro value slice pins s σ H x y v u Q I rx ry h hs;obtain⟨z,i,c,rfl,rfl,hz,he,q⟩:=h;obtain⟨t,rfl⟩:=rx;obtain⟨t',rfl⟩:=ry;obtain⟨j,h1,h2,h3,h4,h5⟩:=z6i he;have hl:z.cps.toList.length=z.length:=by simp [u6N]
 rw[hl] at h1 h4 h5;have hn:=z4s;exact tail_any (u6j s z t) slot_str_getitem.lookup (getItem_str (c:=c) (by
  have e1:decide (i < -(2^63:Int))=false:=decide_eq_false (by omega);have e2:decide (i ≥ 2^63)=false:=decide_eq_false (by omega);rw[e1,e2,Bool.or_false]) (by rw[h1];simpa using h2) ⟨.str ⟨#[c]⟩,H,I.tok _,⟨_,rfl⟩,q⟩) hs
theorem z4M (lo hi:Option Int) (n:Nat):(sliceBounds lo hi none n).1=((HT.sIx n 0 lo:Nat):Int)/\(sliceBounds lo hi none n).2.1=((HT.sIx n n hi:Nat):Int)/\(sliceBounds lo hi none n).2.2=1:=by
 refine⟨?_,?_,rfl⟩
 ·cases lo with
  | none=>simp [sliceBounds,HT.sIx]
  | some i=>
   simp only [sliceBounds,HT.sIx,Option.getD_none,show (1:Int) > 0 by decide,if_true];by_cases h:i<0
   ·simp only [h,if_true] <;> omega
   ·simp only [h,if_false] <;> omega
 ·cases hi with
  | none=>simp [sliceBounds,HT.sIx]
  | some i=>
   simp only [sliceBounds,HT.sIx,Option.getD_none,show (1:Int) > 0 by decide,if_true];by_cases h:i<0
   ·simp only [h,if_true] <;> omega
   ·simp only [h,if_false] <;> omega
theorem z2k (its:List Value) (lo hi:Option Int):slicePick its.toArray lo hi none=((its.drop (HT.sIx its.length 0 lo)).take (HT.sIx its.length its.length hi-HT.sIx its.length 0 lo)).toArray:=by
 obtain⟨h1,h2,h3⟩:=z4M lo hi its.toArray.size;unfold slicePick;rw[h1,h2,h3];simp only [sliceRange_one,pick_run,u4I] <;> rfl
noncomputable def y7n (K:u3q):V->Option Int->Option Int->Hp->VK->Prop:=fun x lo hi H Q=>∃a xs,x=.ref a/\SqL K H a xs/\∀p,H p=none->Q (.ref p) (upd H p (.lst (z9K xs lo hi)))
theorem z5w:SlR X (y7n X.K):=by
 intro pins s σ H x v vl vu lo hi sl Q I rx hs pl pu h;obtain⟨a,xs,rfl,hx,q⟩:=h;cases rx;obtain⟨its,r,ht,hz⟩:=I.list hx;have hlen:=r.length;refine⟨"list",_,slot_list_getitem.lookup,ht.isList.typeIs,?_⟩;refine wpAny_getItem_list_slice ht.isList hs pl pu .none (by simp) ?_ (by rw[u4I] <;> omega);rw[z2k,←hlen];refine⟨.ref s.heap.objs.size,_,I.laid (t':=s.toks) (o:=.lst (z9K xs lo hi)) (fun b ob q=>u3v _ q) (u3y _) ?_,rfl,q _ (I.hok.fresh (u3y _))⟩;exact⟨u5I (z1H xs lo hi) hz,_,0,(r.drop (HT.sIx xs.length 0 lo)).take (HT.sIx xs.length xs.length hi-HT.sIx xs.length 0 lo),u4C _ rfl⟩
theorem zo:CallR X (.builtin "len") (fun xs H Q=>∃p ys,xs=[.ref p]/\(SqL X.K H p ys∨SqT X.K H p ys)/\Q (.int ys.length) H):=by
 intro pins s σ H xs us Q I r h;obtain⟨p,ys,rfl,hq,q⟩:=h;obtain⟨u,rfl,rx⟩:=z8N r;cases rx;have hn:=z4s;rcases hq with hq|hq
 ·obtain⟨its,r',pl,hz⟩:=I.list hq;have hlen:=r'.length;exact Calls.call_len_list pl.isList (by simp only [u4I] <;> omega) ⟨.int ys.length,H,I.tok _,⟨s.toks+1,by rw[u4I,hlen]⟩,q⟩
 ·obtain⟨its,r',pl,hz⟩:=I.tuple hq;have hlen:=r'.length;exact len_tuple pl (by simp only [u4I] <;> omega) ⟨.int ys.length,H,I.tok _,⟨s.toks+1,by rw[u4I,hlen]⟩,q⟩
theorem yJ:CallR X (.builtin "len") (fun xs H Q=>∃z,xs=[.str z]/\z.length<=u4L/\Q (.int z.length) H):=by
 intro pins s σ H xs us Q I r h;obtain⟨z,rfl,hz,q⟩:=h;obtain⟨u,rfl,t,rfl⟩:=z8N r;have hn:=z4s;exact len_str (by omega) ⟨.int z.length,H,I.tok _,⟨_,rfl⟩,q⟩
theorem CallR.or {f:Value} {r r':List V->Hp->VK->Prop} (h:CallR X f r) (h':CallR X f r'):CallR X f (fun xs H Q=>r xs H Q∨r' xs H Q):=by
 intro pins s σ H xs us Q I rs q;rcases q with q|q
 ·exact h pins s σ H xs us Q I rs q
 ·exact h' pins s σ H xs us Q I rs q
theorem zn:CallR X (.type "list") (fun xs H Q=>∃p ys,xs=[.ref p]/\(SqL X.K H p ys∨SqT X.K H p ys)/\∀l,H l=none->Q (.ref l) (upd H l (.lst ys))):=by
 intro pins s σ H xs us Q I r h;obtain⟨p,ys,rfl,hq,q⟩:=h;obtain⟨u,rfl,rx⟩:=z8N r;cases rx;have fin:∀(its:List Value),Vals ys its->ys.length<=u4L->∀(h':Heap) (c':Nat),(∀b o',s.heap.get? b=some o'->h'.get? b=some o')->
   h'.get? s.heap.objs.size=some { cls:=.type "list",dict:=none,data:=.seq its.toArray c',slots:=#[] }->EP X pins σ Q (.ref s.heap.objs.size) { s with heap:=h' }:=fun its r' hz h' c' kp e=>
  ⟨.ref s.heap.objs.size,_,I.laid (t':=s.toks) kp (u3y _) (show ObjOk X.prog X.w _ h' _ (.lst ys) from⟨hz,its,c',r',e⟩),rfl,q _ (I.hok.fresh (u3y _))⟩
 rcases hq with hq|hq
 ·obtain⟨its,r',pl,hz⟩:=I.list hq;have hlen:=r'.length;obtain⟨o,ho,hc,n,hd⟩:=pl.isList;exact call_list_seq p (.inl rfl) ho hc hd (fun h' c' kp e=>fin its r' hz h' c' kp e) (by simp only [u4I] <;> omega)
 ·obtain⟨its,r',pl,hz⟩:=I.tuple hq;have hlen:=r'.length;obtain⟨o,ho,hc,n,hd⟩:=pl;exact call_list_seq p (.inr rfl) ho hc hd (fun h' c' kp e=>fin its r' hz h' c' kp e) (by simp only [u4I] <;> omega)
theorem z3q:CallR X (.type "tuple") (fun xs H Q=>∃p ys,xs=[.ref p]/\((SqL X.K H p ys/\∀l,H l=none->Q (.ref l) (upd H l (.tup ys)))∨(SqT X.K H p ys/\Q (.ref p) H))):=by
 intro pins s σ H xs us Q I r h;obtain⟨p,ys,rfl,h⟩:=h;obtain⟨u,rfl,rx⟩:=z8N r;cases rx;rcases h with⟨hq,q⟩|⟨hq,q⟩
 ·obtain⟨its,r',pl,hz⟩:=I.list hq;have hlen:=r'.length;refine call_tuple_list pl.isList (fun h' kp=>?_) (by simp only [u4I] <;> omega);have I1:Inv X pins σ H { s with heap:=h' }:=I.kept (t':=s.toks) kp;have I2:Inv X pins σ (upd H h'.objs.size (.tup ys)) { s with heap:=h'.push { cls:=.type "tuple",data:=.seq its.toArray } }:=
   I1.laid (t':=s.toks) (fun b o e=>u3v _ e) (u3y _) (show ObjOk X.prog X.w _ _ _ (.tup ys) from⟨hz,its,r',IsTup.new _ _⟩)
  exact⟨.ref h'.objs.size,_,I2,rfl,q _ (I1.hok.fresh (u3y _))⟩
 ·obtain⟨its,r',pl,hz⟩:=I.tuple hq;exact call_tuple_same pl ⟨.ref p,H,I,rfl,q⟩
noncomputable def tyV (K:u3q) (T:String) (x:V) (H:Hp):Prop:=match x with
 | .str _=>T = "str"
 | .int _=>T = "int"
 | .ref p=>(T = "list" /\∃xs,SqL K H p xs)∨(T = "tuple" /\∃o,K.lookup p=some o/\o.cls=.type "tuple" /\o.dict=none)∨
   (T = "dict" /\((∃kvs,H p=some (.dK kvs))∨∃kvs,H p=some (.dT kvs)))∨(T = "set" /\∃S n,H p=some (.set S n))
 | _=>False
theorem y5P {pins:List (Addr×Obj)} {σ:St} {H:Hp} {s:Shared} {T:String} {x:V} {v:Value} (I:Inv X pins σ H s) (r:RelV x v) (ty:tyV X.K T x H) :
  s.TypeIs v T/\∀a,v=.ref a->∃ob,s.heap.get? a=some ob/\ob.dict=none:=by
 cases x with
 | str z=>
  obtain⟨t,rfl⟩:=r;cases (show T = "str" from ty);exact⟨u6j s z t,fun _ e=>nomatch e⟩
 | int i=>
  obtain⟨t,rfl⟩:=r;cases (show T = "int" from ty);exact⟨typeIs_int s i t,fun _ e=>nomatch e⟩
 | ref p=>
  cases r;rcases ty with⟨rfl,xs,hq⟩|⟨rfl,o,hk,hc,hd⟩|⟨rfl,hk⟩|⟨rfl,S,n,hk⟩
  ·obtain⟨its,_,pl,_⟩:=I.list hq;refine⟨pl.isList.typeIs,fun a e=>?_⟩;cases e;obtain⟨o,n,e,c,hd,_⟩:=pl;exact⟨o,e,hd⟩
  ·refine⟨⟨o,I.kIn p o hk,hc⟩,fun a e=>?_⟩;cases e;exact⟨o,I.kIn _ o hk,hd⟩
  ·have z:∃o,s.heap.get? p=some o/\o.ExactDict:=by
    rcases hk with⟨kvs,hk⟩|⟨kvs,hk⟩
    ·obtain⟨_,_,_,_,o,_,_,e,ex,_⟩:=I.hok p _ hk;exact⟨o,e,ex⟩
    ·obtain⟨_,_,_,_,o,_,_,e,ex,_⟩:=I.hok p _ hk;exact⟨o,e,ex⟩
   obtain⟨o,e,ex⟩:=z;refine⟨⟨o,e,ex.1⟩,fun a e2=>?_⟩;cases e2;exact⟨o,e,ex.2.1⟩
  ·obtain⟨o,_,_,_,e,ex,_⟩:=I.hok p _ hk;refine⟨⟨o,e,ex.1⟩,fun a e2=>?_⟩;cases e2;exact⟨o,e,ex.2.1⟩
 | _=>exact u5c ty
noncomputable def y7j (K:u3q) (T:String) (r:V->List V->Hp->VK->Prop) (to:TE):TE:=fun σ H Q=>to σ H fun x H1=>tyV K T x H1/\r x [] H1 Q
noncomputable def tBM (K:u3q) (T:String) (r:V->List V->Hp->VK->Prop) (to:TE) (t:TA):TE:=fun σ H Q=>to σ H fun x H1=>tyV K T x H1/\t σ H1 fun xs H2=>r x xs H2 Q
variable {o e:Expr} {es:List Expr} {to:TE} {t:TA} {name:Str} {apos cpos:Pos} {T id:String} {r:V->List V->Hp->VK->Prop}
theorem xx (pa:PlainAttrs T) (slot:Slot T name id) (hty:typeOf (.builtin id)=pure (.type "method_descriptor")) (hm:MtR X id r) (ho:PE X o to) (ha:PA X (e::es) t)
  (hbase:attributeBase o name X.env (eval o X.env)=eval o X.env:=by rfl)
  (hfew:((backTo cpos (u4W (e::es) X.env)).all (fun x=>!x.1) && (backToKw cpos (keywordEach [] X.env)).all (fun x=>x.1.isSome)
   && decide ((e::es).length+([]:List Keyword).length+(if ([]:List Keyword).isEmpty then 0 else 1)<30))=true:=by rfl)
  (hline:(apos.endLine == cpos.line)=true:=by rfl) (hs:u4W (e::es) X.env=(false,eval e X.env)::u4W es X.env:=by rfl) (hplain:(backTo cpos (u4W es X.env)).any (·.1)=false:=by rfl) :
  PE X (.Call (.Attribute o name apos) (e::es) [] cpos) (tBM X.K T r to t):=by
 intro pins s σ H Q I h;refine wpAny_Call_method_late hbase hfew hline rfl (thn (ho pins s σ H _ I h) fun v s1 ⟨x,H1,I1,r1,ty,q1⟩=>?_);obtain⟨h1,h2⟩:=y5P I1 r1 ty;refine⟨T,id,pa,slot,hty,h1,h2,?_⟩;have hA:=ha cpos pins s1 σ H1 _ I1 q1;rw[hs] at hA ⊢;refine Calls.callWith_builtin (by show (false || (backTo cpos (u4W es X.env)).any (·.1))=false;rw[hplain] <;> rfl) (Calls.evalArgs_plain ?_);exact thn hA fun us s2 ⟨vs,H2,I2,r2,q2⟩=>hm pins s2 σ H2 x vs v us Q I2 r1 r2 q2
end
noncomputable def MtM (X:Cx) (id:String) (r:V->List V->Hp->VK->Prop):Prop:=
 ∀(pins:List (Addr×Obj)) (s:Shared) (σ:St) (H:Hp) (x:V) (xs:List V) (v:Value) (us:List Value) (Q:VK),Inv X pins σ H s->RelV x v->Vals xs us->r x xs H Q->
  wpAny (model X.prog X.w) X.A (call (.builtin id) (v::us)) (EP X pins σ Q) X.xe s
theorem Vals.inv {x:V} {xs:List V} {us:List Value}:Vals (x::xs) us->∃u r,us=u::r/\RelV x u/\Vals xs r
 | .cons r h=>⟨_,_,rfl,r,h⟩
theorem Vals.nil0:∀ {us:List Value},Vals [] us->us=[]
 | _,.nil=>rfl
theorem Vals.one {x:V} {us:List Value} (h:Vals [x] us):∃u,us=[u]/\RelV x u:=by
 obtain⟨u,r,rfl,a,h⟩:=h.inv;rw[h.nil0];exact⟨u,rfl,a⟩
theorem Vals.two {x y:V} {us:List Value} (h:Vals [x,y] us):∃u v,us=[u,v]/\RelV x u/\RelV y v:=by
 obtain⟨u,r,rfl,a,h⟩:=h.inv;obtain⟨v,rfl,b⟩:=h.one;exact⟨u,v,rfl,a,b⟩
theorem Vals.zero:∀ {us:List Value},Vals [] us->us=[]
 | _,.nil=>rfl
theorem Vals.eraseIdx:∀ {xs:List V} {us:List Value} (i:Nat),Vals xs us->Vals (xs.eraseIdx i) (us.eraseIdx i)
 | _,_,_,.nil=>.nil
 | _,_,0,.cons _ t=>t
 | _,_,i+1,.cons r t=>.cons r (Vals.eraseIdx i t)
theorem z4t {α:Type}:∀(l:List α) (i:Nat),(l.eraseIdx i).length<=l.length
 | [],_=>u3y _
 | _::_,0=>Nat.le_succ _
 | _::r,i+1=>Nat.succ_le_succ (z4t r i)
section
variable {X:Cx} {pins:List (Addr×Obj)} {σ:St} {H:Hp} {s:Shared} {l b:Addr} {xs ys zs:List V}
theorem Inv.lset {its its':List Value} {n:Nat} {f:Array Value->Array Value} {t':Nat} (I:Inv X pins σ H s) (hH:H l=some (.lst xs))
  (e:s.heap.get? l=some { cls:=.type "list",data:=.seq its.toArray n }) (hf:f its.toArray=its'.toArray) (hv:Vals ys its') (hz:ys.length<=u4L) :
  Inv X pins σ (upd H l (.lst ys)) { s with heap:=s.heap.update l (Obj.mapSeq f),toks:=t' }:=by
 have q:=PySem.IsL.update e f;rw[hf] at q;refine I.write (x:=l) (e:=l) (by rw[hH];exact trivial) (.inl rfl) (fun b' u hb hu=>(u5B s.heap (Obj.mapSeq f) (Ne.symm hb)).trans hu) ⟨_,q⟩ ?_;exact⟨hz,its',_,hv,q⟩
theorem Inv.lnew {its:List Value} {t':Nat} (I:Inv X pins σ H s) (hv:Vals ys its) (hz:ys.length<=u4L) :
  Inv X pins σ (upd H s.heap.objs.size (.lst ys)) { s with heap:=s.heap.push { cls:=.type "list",data:=.seq its.toArray },toks:=t' }:=
 I.laid (fun _ _ q=>u3v _ q) (u3y _) ⟨hz,its,0,hv,u4C _ rfl⟩
theorem Inv.fresh (I:Inv X pins σ H s):H s.heap.objs.size=none:=I.hok.fresh (u3y _)
theorem Inv.lstM (I:Inv X pins σ H s) (hH:H l=some (.lst xs)):xs.length<=u4L/\∃(its:List Value) (n:Nat),Vals xs its/\xs.length=its.length/\s.heap.get? l=some { cls:=.type "list",data:=.seq its.toArray n }:=by
 obtain⟨z,its,n,r,e⟩:=I.hok l _ hH;exact⟨z,its,n,r,r.length,e⟩
theorem y2Y {n:Nat} (h:n<=u4L):Builtin.List.listTooLong n=false:=by
 unfold Builtin.List.listTooLong;exact decide_eq_false (by omega)
end
section
variable {X:Cx}
noncomputable def y4L:V->List V->Hp->VK->Prop:=fun x vs H Q=>∃l xs y,x=.ref l/\vs=[y]/\H l=some (.lst xs)/\xs.length<u4L/\Q .non (upd H l (.lst (xs++[y])))
theorem yu:MtM X "list.append" y4L:=by
 intro pins s σ H x vs v us Q I rx rv h;obtain⟨l,xs,y,rfl,rfl,hH,hz,q⟩:=h;cases rx;obtain⟨u,rfl,ru⟩:=rv.one;obtain⟨z,its,n,r,hl,e⟩:=I.lstM hH;refine call_meets F.slot_list_append ⟨_,e,rfl⟩ F.entry_list_append (F.args_list_append_2 _ _) (PySem.list_append l its.toArray n u (by rw[u4I];omega)) ⟨e,?_⟩;refine⟨.non,_,I.lset (its':=its++[u]) hH e (by simp) (r.append (.cons ru .nil)) ?_,rfl,q⟩;rw[u3s,u6G];omega
noncomputable def y4K:V->List V->Hp->VK->Prop:=fun x vs H Q=>∃l b xs zs,x=.ref l/\vs=[.ref b]/\H l=some (.lst xs)/\H b=some (.lst zs)/\xs.length+zs.length<=u4L/\Q .non (upd H l (.lst (xs++zs)))
theorem z4o:MtM X "list.extend" y4K:=by
 intro pins s σ H x vs v us Q I rx rv h;obtain⟨l,b,xs,zs,rfl,rfl,hH,hB,hz,q⟩:=h;cases rx;obtain⟨u,rfl,ru⟩:=rv.one;cases ru;obtain⟨z,its,n,r,hl,e⟩:=I.lstM hH;obtain⟨z2,its2,n2,r2,hl2,e2⟩:=I.lstM hB;have hsz:its.toArray.size+its2.toArray.size<=u4L:=by rw[u4I,u4I];omega
 have hlong:¬(!its.toArray.isEmpty && Builtin.List.listTooLong (its.toArray.size+its2.toArray.size))=true:=by
  rw[y2Y hsz,Bool.and_false];exact u4i
 refine call_meets F.slot_list_extend ⟨_,e,rfl⟩ F.entry_list_extend (F.args_list_extend_2 _ _)
  (AutoSeq1.list_extend_list_list_0 l its.toArray n b its2.toArray n2 hlong (by rw[u4I];omega) (by omega)) ⟨e,e2,?_⟩
 refine⟨.non,_,I.lset (its':=its++its2) hH e (by simp) (r.append r2) ?_,rfl,q⟩;rw[u3s];omega
noncomputable def y5p:V->List V->Hp->VK->Prop:=fun x vs H Q=>∃l xs i k y,x=.ref l/\vs=[.int i]/\H l=some (.lst xs)/\-(2^63)<=i/\i<2^63/\seqIndex? i xs.length=some k/\xs[k]?=some y/\Q y (upd H l (.lst (xs.eraseIdx k)))
theorem y2d:MtM X "list.pop" y5p:=by
 intro pins s σ H x vs v us Q I rx rv h;obtain⟨l,xs,i,k,y,rfl,rfl,hH,h1,h2,hk,hy,q⟩:=h;cases rx;obtain⟨u,rfl,ru⟩:=rv.one;obtain⟨t,rfl⟩:=ru;obtain⟨z,its,n,r,hl,e⟩:=I.lstM hH;obtain⟨w,hw,rw'⟩:=r.get hy;refine call_meets F.slot_list_pop ⟨_,e,rfl⟩ F.entry_list_pop (F.args_list_pop_2 _ _)
  (MeetsSeq.list_pop_at l its.toArray n i t k w (fitsIndex_both h1 h2) (by rw[u4I,←hl];exact hk) (by rw[←u4R];exact hw) (by rw[u4I];omega)) ⟨e,?_⟩
 refine⟨y,_,I.lset (its':=its.eraseIdx k) hH e ?_ (r.eraseIdx k) ?_,rw',q⟩
 ·show its.toArray.eraseIdxIfInBounds k=(its.eraseIdx k).toArray;rw[List.eraseIdxIfInBounds_toArray]
 ·have:=z4t xs k;omega
noncomputable def y7r:R2:=fun x y H Q=>∃l b xs zs,x=.ref l/\y=.ref b/\H l=some (.lst xs)/\H b=some (.lst zs)/\xs.length+zs.length<=u4L/\∀p,H p=none->Q (.ref p) (upd H p (.lst (xs++zs)))
theorem y6B:OpR X (binaryOp .Add) y7r:=by
 intro pins s σ H x y v u Q I rx ry h;obtain⟨l,b,xs,zs,rfl,rfl,hH,hB,hz,q⟩:=h;cases rx;cases ry;obtain⟨z,its,n,r,hl,e⟩:=I.lstM hH;obtain⟨z2,its2,n2,r2,hl2,e2⟩:=I.lstM hB;refine PySem.P.add_list e e2 ?_ (by rw[u4I,u4I];omega);have ea:its.toArray++its2.toArray=(its++its2).toArray:=by simp
 rw[ea];exact⟨.ref _,_,I.lnew (t':=s.toks) (r.append r2) (by rw[u3s];omega),rfl,q _ I.fresh⟩
end
section
variable {prog:Program} {w:World} {A:Around} {E:Value->Shared->Prop} {s:Shared}
end
section
variable {X:Cx}
end
end L2
namespace Att
open PySem PySem.W PySem.Calls PyProof.Rows
theorem z0v {P:Params} {h:Heap}:∀(ns:List Int) (vs:List Value),WellAll P h vs (ns.map WData.int)->IntsAre vs ns:=by
 intro ns
 induction ns with
 | nil=>
  intro vs w;rw[List.map_nil] at w;cases w;exact .nil
 | cons n ns ih=>
  intro vs w;rw[u4j] at w;cases w with
  | cons a b=>
   cases a;exact .cons _ _ (ih _ b)
theorem script_of {l:OpenLaw} {n:Nat} (hn:l.most=some n) {P:Params} {h:Heap} {args:List WData} {vals:List Value}
    (hpre:l.row.toRowW.claim.pre args=true) (hwl:WellAll P h vals args) :
    ∃a vs ns,vals=[u4J a]/\args=[WData.list (ns.map WData.int)]/\h.get? a=some { cls:=.type "list",data:=.seq vs.toArray }/\IntsAre vs ns/\ns.length<=n:=by
  have hsh:WShape.hasAll [] args [.list .int]=true:=(pre_splitW hpre).1;have hc:l.pre.holds [] { args:=args }=true:=(pre_splitW hpre).2;obtain⟨d,r,rfl,h1,h2⟩:=hasAllW_cons hsh;obtain rfl:=hasAllW_nil h2;obtain⟨xs,rfl,h3⟩:=hasW_list h1;obtain⟨ns,rfl⟩:=items_int h3;have hlen:ns.length<=n:=by
    unfold OpenLaw.pre at hc;have h4:(WTm.not (.lt (.lit (.int (n:Int))) (.len (.arg 0)))).holds [] { args:=[.list (ns.map .int)] }=true:=by
      have h4:=(holds_andW hc).1;rw[hn] at h4;exact h4
    have h5:=condW_of h4 (w_not (w_lt w_lit (w_len_list (w_arg rfl))));rw[u3z] at h5;refine Nat.le_of_not_lt fun q=>?_;have q':(n:Int)<((ns.length:Nat):Int):=by omega
    first
      | (rw[decide_eq_true q'] at h5;exact absurd h5 (by decide))
      | (simp at h5;omega)
  cases hwl with
  | cons w1 w2=>
    cases w2;cases w1 with
    | list ho hall=>exact⟨_,_,ns,rfl,rfl,ho,z0v ns _ hall,hlen⟩
theorem post_true (l:OpenLaw) (args:List WData):l.row.toRowW.claim.post args (.bool true) args=true:=
 postW_of (r:=l.row.toRowW) (X:=(true == true))
  (show WShape.has [] (.bool true) .bool=true by first|rfl|decide|simp [WShape.has,WShape.arms,WShape.armsAll])
  (show (WTm.eq .res (.lit (.bool true))).value [] { args:=args,res:=some (.bool true),after:=args }=some (.bool (true == true)) from w_eq_bool (w_res rfl) w_lit) rfl
section
variable {prog:Program} {w:World} {A:Around} {E:Value->Shared->Prop} {s:Shared} {K:Frag}
end
end Att
namespace L2
open PySem PySem.Spec PyProof.Rows
theorem z3z:∀ {vs:List Value} {ns:List Int},IntsAre vs ns->Vals (ns.map V.int) vs
 | _,_,.nil=>.nil
 | _,_,.cons n t h=>.cons ⟨t,rfl⟩ (z3z h)
noncomputable def y7Z (H:Hp):Prop:=∀b,H b=none∨∃o xs,H b=some (.frz o (.lst xs))
theorem y2o {P:Program} {w:World} {K:u3q} {mg mb:Str->Option Value} {CX:CXT} {k:Nat} {fa a:Addr} {fd:FuncData} {x:Str} {sp:Sp} {s₁:Shared} {vs:List Value} {ns:List Int}
  (KX:K.In s₁.heap) (hns:s₁.heap.Ns u4z mg) (hb:s₁.heap.Ns builtinsNs mb) (hbb:∀x:Str,x≠ "__name__" ->mb x=bootBuiltins x) (hlim:s₁.heap.NoLimit) (hg:s₁.gens = #[])
  (ha:s₁.heap.get? a=some { cls:=.type "list",data:=.seq vs.toArray }) (hi:IntsAre vs ns) (hl:ns.length<=u4L) (hr:Room k callerA)
  (F:∀base:Heap,K.In base->base.Ns u4z mg->FnOk P w K mg base CX k fa fd [x] sp) (hbind:∀(s:Shared) (u:Value),BindsTo s fd ⟨[u],[]⟩ [(x,u)])
  (hsp:∀H:Hp,y7Z H->SqL K H a (ns.map V.int)->sp [.ref a] H (fun v _=>v=.bl true) fun _ _ _=>False)
  (hCX:∀H e s',CX [] H s₁ (fun _ _ _=>False) e s'->False) :
  codeAny (model P w) callerA (.call (.ref fa) ⟨[.ref a],[]⟩) (fun r s'=>r=.ok (.ret (.bool true))/\OldK s₁.heap s'.heap/\s'.os=s₁.os/\AllBare s'.gens) s₁:=by
 have rv:=z3z hi;have lenV:=hi.length;have core:∀H:Hp,y7Z H->SqL K H a (ns.map V.int)->HOk P w H s₁.heap->(∀b,H b≠none->b=a)->(H a≠none->K.lookup a=none)->
   codeAny (model P w) callerA (.call (.ref fa) ⟨[.ref a],[]⟩) (fun r s'=>r=.ok (.ret (.bool true))/\OldK s₁.heap s'.heap/\s'.os=s₁.os/\AllBare s'.gens) s₁:=by
  intro H hO hS hok hA hK;have base_of:∀ {b:Addr} {o:Obj},s₁.heap.get? b=some o->H b=none->(y2t s₁.heap H).get? b=some o:=fun e n=>y2s e n;have noA:∀ {b:Addr} {o:Obj} {es:Array DictEntry} {ep:Nat},s₁.heap.get? b=some o->o.data=.dict es ep->H b=none:=fun {b o es ep} e d=>by
   cases q:H b with
   | none=>rfl
   | some u=>
    have e':b=a:=hA b (by rw[q];simp);subst e';rw[ha] at e;cases e;have d':Data.seq vs.toArray _=Data.dict es ep:=d;cases d'
  have nsK:∀ {b:Addr} {m:Str->Option Value},s₁.heap.Ns b m->(y2t s₁.heap H).Ns b m:=fun {b m} ⟨o,es,ep,e,d,r⟩=>⟨o,es,ep,base_of e (noA e d),d,r⟩
  have hKb:K.In (y2t s₁.heap H):=fun b o e=>base_of (KX b o e) (by
   cases q:H b with
   | none=>rfl
   | some u=>
    have e':b=a:=hA b (by rw[q];simp);subst e';rw[hK (by rw[q];simp)] at e;cases e)
  have hM:Mod K mg (y2t s₁.heap H):=⟨hKb,nsK hns,⟨mb,nsK hb,hbb⟩,let ⟨mc,h1,h2⟩:=hlim;⟨mc,nsK h1,h2⟩⟩
  have e0:Env0 P w K mg (y2t s₁.heap H) callerA [] s₁ H:=⟨rfl,hM,fun b o e=>y4b e,Nat.le_of_eq (y0d _ _),trivial,fun b hb=>absurd (show b∈([]:List Addr) from hb) (by simp),hok,.of_eq hg⟩
  refine codeAny_mono ((F _ hKb (nsK hns)).run callerA [] s₁ H ⟨[.ref a],[]⟩ [.ref a] [.ref a] _ _ hr e0 (hbind s₁ (.ref a)) (.cons rfl .nil) (hsp H hO hS)) fun r s' h=>?_;cases r with
  | error e=>exact (hCX H e s' h).elim
  | ok fl=>
   cases fl with
   | next=>exact u5c h
   | brk=>exact u5c h
   | cont=>exact u5c h
   | ret u=>
    obtain⟨v,H',os,bare,un,hok',r',q⟩:=h;have q':v=.bl true:=q;subst q';obtain rfl:u=Value.bool true:=r';refine⟨rfl,OldK.of_keep fun b o e=>?_,os,bare⟩;cases q:H b with
    | none=>exact un.keep b o e q (by intro z;exact absurd (show b∈([]:List Addr) from z) (by simp)) (by simp)
    | some u=>
     rcases hO b with z|⟨ob,xs,z⟩
     ·rw[q] at z;cases z
     ·have z2:=un.frzs b ob _ z;obtain⟨e1,_⟩:=hok b _ z;obtain⟨e2,_⟩:=hok' b _ z2;rw[e] at e1;cases e1;exact e2
 cases hk:K.lookup a with
 | some o=>
  have e:=KX a o hk;rw[ha] at e;cases e;refine core (fun _=>none) (fun _=>.inl rfl) (.inr ⟨_,vs.toArray,_,hk,rfl,rfl,rfl,by rw[u4I,lenV];exact hl,by simpa using rv⟩) (fun b u z=>by have z':(none:Option HO)=some u:=z;cases z') (fun b z=>absurd rfl z) fun z=>absurd rfl z
 | none=>
  refine core (fun b=>if b=a then some (.frz { cls:=.type "list",data:=.seq vs.toArray } (.lst (ns.map V.int))) else none) (fun b=>?_) (.inl (.inr ⟨{ cls:=.type "list",data:=.seq vs.toArray },if_pos rfl⟩)) (fun b u z=>?_) (fun b z=>?_) fun _=>hk
  ·by_cases hb:b=a
   ·exact .inr ⟨_,_,if_pos hb⟩
   ·exact .inl (if_neg hb)
  ·by_cases hb:b=a
   ·have z':=(if_pos hb).symm.trans z;cases z';subst hb;exact⟨ha,by rw[u3z];exact hl,vs,_,rv,ha⟩
   ·have z':=(if_neg hb).symm.trans z;cases z'
  ·by_cases hb:b=a
   ·exact hb
   ·exact absurd (if_neg hb) z
noncomputable def jZ (s:Stmt) (j:Nat):Stmt:=match s with
 | .ClassDef _ _ _ body _ _ _ _ _ _ _=>body.getD j (.Pass ⟨0,0,0,0⟩)
 | _=>.Pass ⟨0,0,0,0⟩
noncomputable def xz (s:Stmt):Arguments:=match s with
 | .FunctionDef _ a _ _ _ _ _ _ _ _=>a
 | _=>{ posonlyargs:=[],args:=[],vararg:=none,kwonlyargs:=[],kw_defaults:=[],kwarg:=none,defaults:=[] }
noncomputable def yb (s:Stmt):List Stmt:=match s with
 | .FunctionDef _ _ b _ _ _ _ _ _ _=>b
 | _=>[]
noncomputable def zK (s:Stmt):Scope:=match s with
 | .FunctionDef _ _ _ _ _ _ sc _ _ _=>sc
 | _=>{ kind:=.function,names:=[],isGenerator:=false,isCoroutine:=false }
noncomputable abbrev CX0:CXT:=fun _ _ _ _ _ _=>False
noncomputable abbrev E0:XK:=fun _ _ _=>False
theorem y0B {X:Cx}:qL CX0 X E0:=fun _ _ _ _ _ _ _ h=>h.elim
structure Fun (K:u3q) (x qual:Str) (st:Stmt) (f:Addr) (fd:FuncData):Prop where
 ex:∃(oc:Value) (od:Option Addr) (kV doc pm:Value) (an:Option Addr) (cdv ct:Value) (osl:Array (Option Value)),
  fd=u6F x qual (xz st) (yb st) (zK st) .none kV doc pm an cdv ct/\K.lookup f=some ⟨oc,od,.func fd,osl⟩/\PySem.W.codeIn K cdv qual=true
 kp:u5L K (.ref f)=true
section
variable {P:Program} {w:World} {K:u3q} {mg:Str->Option Value} {base:Heap}
theorem Fun.ok {x qual:Str} {st:Stmt} {f:Addr} {fd:FuncData} {N ps:List Str} {k:Nat} {sp:Sp} (F:Fun K x qual st f fd) (S:FnScope N ps (zK st)) (len:∀vs H Q E,sp vs H Q E->vs.length=ps.length)
  (hbody:∀(cdv:Value) (A:Around) (outer:List Env) (s:Shared) (H:Hp) (vs:List V) (Q:VK) (E:XK),Room k (A.deeper (envOfC qual (zK st) s.heap.objs.size f cdv))->sp vs H Q E->
   ∃t,PSs (z1G CX0 P w K mg base N qual (zK st) f cdv A outer s H E).nox (yb st) t/\t { nx:=fun _ H'=>Q .non H',rt:=Q } (j8 N vs) H):FnOk P w K mg base CX0 (k+1) f fd ps sp:=by
 obtain⟨oc,od,kV,doc,pm,an,cdv,ct,osl,rfl,lk,hcd⟩:=F.ex;refine y3D lk hcd S len fun A outer s H vs Q E hr hsp=>?_;obtain⟨t,h,q⟩:=hbody cdv A outer s H vs Q E hr hsp;exact⟨t,h.nox,q⟩
theorem y3k {x qual:Str} {st:Stmt} {f:Addr} {oc:Value} {od an:Option Addr} {osl:Array (Option Value)} {kV doc pm cdv ct:Value} (l:K.lookup f=some ⟨oc,od,.func (u6F x qual (xz st) (yb st) (zK st) .none kV doc pm an cdv ct),osl⟩)
  (c:PySem.W.codeIn K cdv qual=true) (k:u5L K (.ref f)=true):Fun K x qual st f (u6F x qual (xz st) (yb st) (zK st) .none kV doc pm an cdv ct):=⟨⟨oc,od,kV,doc,pm,an,cdv,ct,osl,rfl,l,c⟩,k⟩
end
theorem qH {A:Around} {k:Nat} (hr:Room k A):A.units+1<cLine:=Nat.lt_of_le_of_lt (Nat.add_le_add_left (by decide:1<=64) _) hr.units
theorem z9e {n:Nat} (h:n<=1000):n<u4L:=Nat.lt_of_le_of_lt h (by decide)
section
variable {X:Cx}
theorem pv (i:Nat) {x:Str} {pos:Pos} (hN:X.N[i]?=some x:=by rfl) (hv:Vis X.env.scope x:=by first|exact Or.inl rfl|exact Or.inr (Or.inl rfl)|exact Or.inr (Or.inr rfl)) (hd:(x == ("__debug__" : Str))=false:=by decide)
  (hcd:(x == ("__classdict__" : Str))=false:=by decide):PE X (.Name x pos) (z6r i):=y5x hN hv hd hcd
end
noncomputable def Same (H H':Hp):Prop:=∀b o,H b=some o->H' b=some o
theorem Same.refl (H:Hp):Same H H:=fun _ _ h=>h
theorem Same.trans {H H1 H2:Hp} (a:Same H H1) (b:Same H1 H2):Same H H2:=fun c o h=>b c o (a c o h)
theorem Same.free {H H':Hp} (e:Same H H') {l:Addr} (h:H' l=Option.none):H l=Option.none:=by
 cases q:H l with
 | none=>rfl
 | some o=>
  rw[e l o q] at h;cases h
theorem Same.seq {K:u3q} {H H':Hp} {a:Addr} {xs:List V} (e:Same H H') (h:SqL K H a xs):SqL K H' a xs:=by
 rcases h with (h|⟨o,h⟩)|h
 ·exact .inl (.inl (e _ _ h))
 ·exact .inl (.inr ⟨o,e _ _ h⟩)
 ·exact .inr h
section
variable {κ:Type} [DecidableEq κ]
noncomputable def z1N (kvs:List (κ×V)) (k:κ):Option V:=(kvs.find? fun kv=>decide (kv.1=k)).map (·.2)
noncomputable def z5m (kvs:List (κ×V)) (k:κ) (v:V):List (κ×V):=
 if (kvs.any fun kv=>decide (kv.1=k))=true then kvs.map (fun kv=>if kv.1=k then (kv.1,v) else kv) else kvs++[(k,v)]
theorem yp {p:κ×V} {r:List (κ×V)} {k:κ} (e:p.1=k):z1N (p::r) k=some p.2:=by simp [z1N,List.find?_cons,e]
theorem yq {p:κ×V} {r:List (κ×V)} {k:κ} (e:¬p.1=k):z1N (p::r) k=z1N r k:=by simp [z1N,List.find?_cons,e]
theorem vM (k:κ):∀kvs:List (κ×V),(kvs.any fun kv=>decide (kv.1=k))=(z1N kvs k).isSome
 | []=>rfl
 | p::r=>by
  rw[List.any_cons];by_cases e:p.1=k
  ·simp only [yp e,decide_eq_true e,Bool.true_or,Option.isSome_some]
  ·rw[yq e,decide_eq_false e,Bool.false_or];exact vM k r
theorem z6k (k j:κ) (y:V):∀kvs:List (κ×V),z1N (kvs.map fun kv=>if kv.1=k then (kv.1,y) else kv) j=(z1N kvs j).map fun x=>if j=k then y else x
 | []=>rfl
 | p::r=>by
  have ih:=z6k k j y r;rw[u4j];by_cases h:p.1=k
  ·rw[if_pos h];by_cases e:p.1=j
   ·rw[yp (p:=(p.1,y)) e,yp e,Option.map_some,if_pos (e.symm.trans h)]
   ·rw[yq (p:=(p.1,y)) e,yq e,ih]
  ·rw[if_neg h];by_cases e:p.1=j
   ·rw[yp (p:=p) e,yp e,Option.map_some,if_neg (fun z=>h (e.trans z))]
   ·rw[yq (p:=p) e,yq e,ih]
theorem z4B (k j:κ) (y:V):∀kvs:List (κ×V),z1N kvs k=none->z1N (kvs++[(k,y)]) j=if j=k then some y else z1N kvs j
 | [],_=>by
  by_cases e:k=j
  ·rw[if_pos e.symm];exact yp (p:=(k,y)) e
  ·rw[if_neg (fun z=>e z.symm)];exact yq (p:=(k,y)) e
 | p::r,hn=>by
  rw[u5G];have hk:¬p.1=k:=fun z=>by rw[yp z] at hn;cases hn
  rw[yq hk] at hn;have ih:=z4B k j y r hn;by_cases e:p.1=j
  ·rw[yp e,yp e,if_neg (fun z=>hk (e.trans z))]
  ·rw[yq e,yq e,ih]
theorem y1g (kvs:List (κ×V)) (k j:κ) (y:V):z1N (z5m kvs k y) j=if j=k then some y else z1N kvs j:=by
 unfold z5m;by_cases a:(kvs.any fun kv=>decide (kv.1=k))=true
 ·rw[if_pos a,z6k];rw[vM] at a;by_cases e:j=k
  ·obtain⟨x,hx⟩:=Option.isSome_iff_exists.mp a;rw[if_pos e,e,hx,Option.map_some,if_pos rfl]
  ·rw[if_neg e];cases z1N kvs j with
   | none=>rfl
   | some x=>rw[Option.map_some,if_neg e]
 ·rw[if_neg a];refine z4B k j y kvs ?_;rw[vM] at a;cases q:z1N kvs k with
  | none=>rfl
  | some x=>rw[q] at a;exact (a rfl).elim
theorem jY (kvs:List (κ×V)) (k:κ) (v:V):(z5m kvs k v).length<=kvs.length+1:=by
 unfold z5m;split
 ·rw[u3z];omega
 ·rw[u3s,u3x,u4G];omega
theorem RelO.isSome_eq {o:Option V} {u:Option Value} (r:RelO o u):o.isSome=u.isSome:=by
 cases o with
 | none=>cases u with
  | none=>rfl
  | some _=>exact (show False from r).elim
 | some _=>cases u with
  | none=>exact (show False from r).elim
  | some _=>rfl
theorem KV.val {kvs:List (κ×V)} {vs:List (κ×Value)} (r:KV kvs vs) (k:κ):RelO (z1N kvs k) (valueAt vs k):=by
 unfold KV at r
 induction r with
 | nil=>exact True.intro
 | @cons p q ps qs h t ih=>
  obtain⟨h1,h2⟩:=h;by_cases e:p.1=k
  ·have e':q.1=k:=h1.symm.trans e;have b:valueAt (q::qs) k=some q.2:=by simp [valueAt,List.find?_cons,e']
   rw[yp e,b];exact h2
  ·have e':¬q.1=k:=fun z=>e (h1.trans z);have b:valueAt (q::qs) k=valueAt qs k:=by simp [valueAt,List.find?_cons,e']
   rw[yq e,b];exact ih
theorem KV.any {kvs:List (κ×V)} {vs:List (κ×Value)} (r:KV kvs vs) (k:κ):(kvs.any fun kv=>decide (kv.1=k))=vs.any fun kv=>decide (kv.1=k):=by
 unfold KV at r
 induction r with
 | nil=>rfl
 | cons h t ih=>rw[List.any_cons,List.any_cons,ih,h.1]
theorem KV.repl {kvs:List (κ×V)} {vs:List (κ×Value)} (r:KV kvs vs) (k:κ) {y:V} {u:Value} (ry:RelV y u) :
  KV (kvs.map fun kv=>if kv.1=k then (kv.1,y) else kv) (vs.map fun kv=>if kv.1=k then (kv.1,u) else kv):=by
 unfold KV at r ⊢
 induction r with
 | nil=>exact .nil
 | @cons p q ps qs h t ih=>
  rw[u4j,u4j];refine .cons ?_ ih;obtain⟨h1,h2⟩:=h;by_cases e:p.1=k
  ·rw[if_pos e,if_pos (h1.symm.trans e)];exact⟨h1,ry⟩
  ·rw[if_neg e,if_neg (fun z=>e (h1.trans z))];exact⟨h1,h2⟩
theorem KV.put {kvs:List (κ×V)} {vs:List (κ×Value)} (r:KV kvs vs) (k:κ) {y:V} {u:Value} (ry:RelV y u):KV (z5m kvs k y) (stored vs k u):=by
 unfold z5m stored;rw[r.any k];by_cases e:(vs.any fun kv=>decide (kv.1=k))=true
 ·rw[if_pos e,if_pos e];exact r.repl k ry
 ·rw[if_neg e,if_neg e];exact Paired.snoc r ⟨rfl,ry⟩
theorem KV.length {kvs:List (κ×V)} {vs:List (κ×Value)} (r:KV kvs vs):kvs.length=vs.length:=Paired.length r
end
theorem y0W {P:Program} {w:World} {k:Key} {u:Value} (r:RelV (kV k) u):(yS P w).is k u=true:=by
 cases k with
 | inl i=>obtain⟨t,e⟩:=(show ∃t,u=Value.int i t from r);subst e;exact z6J P w i t
 | inr x=>obtain⟨t,e⟩:=(show ∃t,u=Value.str x t from r);subst e;exact z0m P w x t
theorem z4x {P:Program} {w:World}:∀ {ks:List Key} {us:List Value},Vals (ks.map kV) us->ItemsAre (yS P w) ks us
 | [],_,r=>by rw[List.map_nil] at r;cases r;exact .nil
 | k::ks,_,r=>by
  rw[u4j] at r;cases r with
  | cons h t=>exact .cons (y0W h) (z4x t)
noncomputable abbrev KT (H:Hp):List (List Key×V)->List (List Key×Addr×Value)->Prop:=Paired fun p q=>p.1=q.1/\H q.2.1=some (.tup (p.1.map kV))/\RelV p.2 q.2.2
theorem KT.val {H:Hp} {kvs:List (List Key×V)} {xs:List (List Key×Addr×Value)} (r:KT H kvs xs) (k:List Key):RelO (z1N kvs k) ((atKey xs k).map (·.2)):=by
 induction r with
 | nil=>exact True.intro
 | @cons p q ps qs h t ih=>
  obtain⟨h1,_,h2⟩:=h;by_cases e:p.1=k
  ·have e':q.1=k:=h1.symm.trans e;have b:atKey (q::qs) k=some q.2:=by simp [atKey,List.find?_cons,e']
   rw[yp e,b];exact h2
  ·have e':¬q.1=k:=fun z=>e (h1.trans z);have b:atKey (q::qs) k=atKey qs k:=by simp [atKey,List.find?_cons,e']
   rw[yq e,b];exact ih
theorem KT.repl {H:Hp} {kvs:List (List Key×V)} {xs:List (List Key×Addr×Value)} (r:KT H kvs xs) (k:List Key) {y:V} {u:Value} (ry:RelV y u) :
  KT H (kvs.map fun kv=>if kv.1=k then (kv.1,y) else kv) (xs.map (putAt k u)):=by
 induction r with
 | nil=>exact .nil
 | @cons p q ps qs h t ih=>
  rw[u4j,u4j];refine .cons ?_ ih;obtain⟨h1,h2,h3⟩:=h;unfold putAt;by_cases e:p.1=k
  ·rw[if_pos e,if_pos (h1.symm.trans e)];exact⟨h1,h2,ry⟩
  ·rw[if_neg e,if_neg (fun z=>e (h1.trans z))];exact⟨h1,h2,h3⟩
theorem KT.put {H:Hp} {kvs:List (List Key×V)} {xs:List (List Key×Addr×Value)} (r:KT H kvs xs) (k:List Key) {b:Addr} {y:V} {u:Value} (hb:H b=some (.tup (k.map kV))) (ry:RelV y u) :
  KT H (z5m kvs k y) (storedH xs k b u):=by
 have e:(kvs.any fun kv=>decide (kv.1=k))=(atKey xs k).isSome:=by
  rw[vM,(r.val k).isSome_eq,Option.isSome_map]
 unfold z5m storedH;rw[e];by_cases q:(atKey xs k).isSome=true
 ·rw[if_pos q,if_pos q];exact r.repl k ry
 ·rw[if_neg q,if_neg q];exact Paired.snoc r ⟨rfl,hb,ry⟩
theorem KT.keeps {H H':Hp} {kvs:List (List Key×V)} {xs:List (List Key×Addr×Value)} (r:KT H kvs xs) (ht:∀b ys,H b=some (.tup ys)->H' b=some (.tup ys)):KT H' kvs xs:=
 Paired.mapP r fun _ _ z=>⟨z.1,ht _ _ z.2.1,z.2.2⟩
section
variable {P:Program} {w:World} {H:Hp} {h:Heap} {a:Addr}
theorem y5o {u:HO} (ok:HOk P w H h) (e:Rd H a u):ObjOk P w H h a u:=e.ok ok
theorem y3J {kvs:List (Key×V)} (ok:HOk P w H h) (e:Rd H a (.dK kvs)):kvs.length<=u4L/\(a == sysModules)=false/\∃vs,KV kvs vs/\h.DictOf (yS P w) a vs:=
 show ObjOk P w H h a (.dK kvs) from y5o ok e
theorem y7A {kvs:List (Key×V)} (ok:HOk P w H h) (e:H a=some (.dK kvs)):kvs.length<=u4L/\(a == sysModules)=false/\∃vs,KV kvs vs/\h.DictOf (yS P w) a vs:=y3J ok (.inl e)
theorem z7k {ks:List Key} (ok:HOk P w H h) (e:H a=some (.tup (ks.map kV))):(tupleKind (yS P w)).is h ks a:=by
 obtain⟨_,its,r,o,h1,h2,n,h3⟩:=(show ObjOk P w H h a (.tup (ks.map kV)) from ok a _ e)
 exact⟨o,its.toArray,n,h1,h2,h3,by simpa using z4x r⟩
theorem y3I {kvs:List (List Key×V)} (ok:HOk P w H h) (e:Rd H a (.dT kvs)):kvs.length<=u4L/\(a == sysModules)=false/\
  ∃xs,KT H kvs xs/\h.DictOfH (tupleKind (yS P w)) a xs:=by
 obtain⟨z,y,xs,r,o,es,ep,h1,h2,h3,h4,h5⟩:=(show ObjOk P w H h a (.dT kvs) from y5o ok e)
 refine⟨z,y,xs,r,o,es,ep,h1,h2,h3,h4,fun x hx=>?_,h5⟩;have all:∀ {l:List (List Key×V)} {m:List (List Key×Addr×Value)},KT H l m->∀x∈m,(tupleKind (yS P w)).is h x.1 x.2.1:=by
  intro l m q
  induction q with
  | nil=>intro x hx;exact nomatch hx
  | @cons p q ps qs hq t ih=>
   intro x hx;rcases u3w.mp hx with e|hx
   ·subst e;exact z7k ok (by rw[←hq.1];exact hq.2.1)
   ·exact ih x hx
 exact all r x hx
theorem y6z {kvs:List (List Key×V)} (ok:HOk P w H h) (e:H a=some (.dT kvs)):kvs.length<=u4L/\(a == sysModules)=false/\
  ∃xs,KT H kvs xs/\h.DictOfH (tupleKind (yS P w)) a xs:=y3I ok (.inl e)
end
noncomputable def DGet (H:Hp) (a:Addr) (y:V) (r:Option V):Prop:=
 (∃kvs k,Rd H a (.dK kvs)/\y=kV k/\r=z1N kvs k)∨∃kvs k b,Rd H a (.dT kvs)/\y=.ref b/\H b=some (.tup (k.map kV))/\r=z1N kvs k
noncomputable def DPut (H:Hp) (a:Addr) (y v:V) (H':Hp):Prop:=
 (∃kvs k,H a=some (.dK kvs)/\y=kV k/\kvs.length<u4L/\H'=upd H a (.dK (z5m kvs k v)))∨
 ∃kvs k b,H a=some (.dT kvs)/\y=.ref b/\H b=some (.tup (k.map kV))/\kvs.length<u4L/\H'=upd H a (.dT (z5m kvs k v))
theorem DGet.k {H:Hp} {a:Addr} {kvs:List (Key×V)} {k:Key} (e:H a=some (.dK kvs)):DGet H a (kV k) (z1N kvs k):=.inl ⟨kvs,k,.inl e,rfl,rfl⟩
theorem DPut.k {H:Hp} {a:Addr} {kvs:List (Key×V)} {k:Key} {v:V} (e:H a=some (.dK kvs)) (hl:kvs.length<u4L):DPut H a (kV k) v (upd H a (.dK (z5m kvs k v))):=.inl ⟨kvs,k,e,rfl,hl,rfl⟩
section
variable {X:Cx} {pins:List (Addr×Obj)} {σ:St} {H:Hp} {s:Shared} {a:Addr} {y v:V} {u r:Value} {o:Option V} {A:Around} {E:Value->Shared->Prop}
theorem Inv.big (I:Inv X pins σ H s):sysModules<s.heap.objs.size:=by
 have h:u4z<s.heap.objs.size:=(I.mod.glob.keeps I.bk).lt;exact Nat.lt_trans (by decide) h
theorem y1G {Q:Value->Shared->Prop} (hu:A.units+1<cLine) (I:Inv X pins σ H s) (g:DGet H a y (some v)) (ry:RelV y u) (h:∀w' s',Inv X pins σ H s'->RelV v w'->Q w' s') :
  wpAny (model X.prog X.w) A (getItem (.ref a) u) Q E s:=by
 rcases g with⟨kvs,k,e,ey,l⟩|⟨kvs,k,b,e,ey,eb,l⟩
 ·subst ey;obtain⟨z,hd,vs,rel,dd⟩:=y3J I.hok e;obtain⟨w',hw,rw'⟩:=RelO.some_of (v:=v) (o:=valueAt vs k) (by rw[l];exact rel.val k);exact wpAny_getItem_of (y0W ry) dd.mapOf hw (h w' _ (I.tok _) rw')
 ·subst ey;cases (show u=u4J b from ry);obtain⟨z,hd,xs,rel,dd⟩:=y3I I.hok e;obtain⟨w',hw,rw'⟩:=RelO.some_of (v:=v) (o:=(atKey xs k).map (·.2)) (by rw[l];exact rel.val k);obtain⟨p,hp,hp2⟩:=u4e.mp hw;refine wpAny_getItem_heap (tupleKind_room_in1 hu) (z7k I.hok eb) dd hp ?_;rw[hp2];exact h w' _ (I.tok _) rw'
theorem y4y {Q:Value->Shared->Prop} (hu:A.units+1<cLine) (I:Inv X pins σ H s) (g:DGet H a y o) (ry:RelV y u) (h:∀s',Inv X pins σ H s'->Q (.bool (!o.isSome)) s') :
  wpAny (model X.prog X.w) A (u6Q .NotIn u (.ref a)) Q E s:=by
 rcases g with⟨kvs,k,e,ey,l⟩|⟨kvs,k,b,e,ey,eb,l⟩
 ·subst ey;obtain⟨z,hd,vs,rel,dd⟩:=y3J I.hok e;refine wpAny_notIn_of (y0W ry) hd dd.mapOf ?_;rw[←(rel.val k).isSome_eq,←l];exact h _ (I.tok _)
 ·subst ey;cases (show u=u4J b from ry);obtain⟨z,hd,xs,rel,dd⟩:=y3I I.hok e;refine wpAny_notIn_heap (tupleKind_room_in1 hu) (z7k I.hok eb) hd dd ?_;have q:=(rel.val k).isSome_eq;rw[Option.isSome_map] at q;rw[←q,←l];exact h _ (I.tok _)
theorem y1E {h':Heap} {t':Nat} {ob:HO} (I:Inv X pins σ H s) (mu:Mut (H a)) (hs:u5x a s.heap h') (he:∃q,h'.get? a=some q) (new:ObjOk X.prog X.w (upd H a ob) h' a ob) :
  Inv X pins σ (upd H a ob) { s with heap:=h',toks:=t' }:=
 I.write (x:=a) (e:=a) mu (.inl rfl) (fun b q hb z=>(hs.2 b hb).trans z) he new
theorem y6T {P:Program} {w:World} {H':Hp} {h':Heap} {kvs:List (Key×V)} {vs:List (Key×Value)} (z:kvs.length<=u4L) (hd:(a == sysModules)=false) (rel:KV kvs vs) (dd:h'.DictOf (yS P w) a vs) :
  ObjOk P w H' h' a (.dK kvs):=⟨z,hd,vs,rel,dd⟩
theorem y1F {H':Hp} {Q:Unit->Shared->Prop} (hu:A.units+1<cLine) (I:Inv X pins σ H s) (g:DPut H a y v H') (ry:RelV y u) (rv:RelV v r) (h:∀s',Inv X pins σ H' s'->Q () s') :
  wpAny (model X.prog X.w) A (setItem (.ref a) u r) Q E s:=by
 rcases g with⟨kvs,k,e,ey,l,eH⟩|⟨kvs,k,b,e,ey,eb,l,eH⟩
 ·subst ey eH;obtain⟨z,hd,vs,rel,dd⟩:=y7A I.hok e;have hz:vs.length<=u4L:=by rw[←rel.length];exact z
  have hl:(z5m kvs k v).length<=u4L:=by have:=jY kvs k v;omega
  refine wpAny_setItem_pairs (hsz:=hz) (y0W ry) dd fun h' dd' hs=>h _ ?_;have he:∃q,h'.get? a=some q:=let ⟨q,_,_,hq,_⟩:=dd';⟨q,hq⟩;exact y1E I (by rw[e];exact True.intro) hs he (y6T hl hd (rel.put k rv) dd')
 ·subst ey eH;cases (show u=u4J b from ry);obtain⟨z,hd,xs,rel,dd⟩:=y6z I.hok e;have hz:xs.length<=u4L:=by rw[←Paired.length rel];exact z
  have hl:(z5m kvs k v).length<=u4L:=by have:=jY kvs k v;omega
  refine wpAny_setItem_heap (hsz:=hz) (tupleKind_room_in1 hu) (z7k I.hok eb) dd fun h' dd' hs=>h _ ?_;obtain⟨q,es,ep,hq,h2,h3,h4,_,h5⟩:=dd';refine y1E I (by rw[e];exact True.intro) hs ⟨q,hq⟩ ⟨hl,hd,_,(rel.put k eb rv).keeps fun c ys ec=>?_,q,es,ep,hq,h2,h3,h4,h5⟩;rw[zb (xV ec e (fun z=>nomatch z))];exact ec
end
section
variable {X:Cx} {pins:List (Addr×Obj)} {σ:St} {H:Hp} {s:Shared} {a:Addr} {kvs:List (Key×V)} {k:Key} {u:Value} {A:Around} {E:Value->Shared->Prop}
end
noncomputable def y7a (i:Expr):Prop:=∀ov iv,subscripted i false ov iv=operate [ov,iv] (getItem ov iv)
theorem y4C {prog:Program} {w:World} {A:Around} {E:Value->Shared->Prop} {s:Shared} {env:Env} {value slice:Expr} {pos:Pos} {T id:String} {Q:Value->Shared->Prop}
  (hl:typeLookup (.type T) "__getitem__" = pure (some (.builtin id))) (hs:y7a slice)
  (h:wpAny (model prog w) A (eval value env) (fun o s₁=>wpAny (model prog w) A (eval slice env) (fun i s₂=>s₂.TypeIs o T/\wpAny (model prog w) A (getItem o i) Q E s₂) E s₁) E s) :
  wpAny (model prog w) A (eval (.Subscript value slice pos) env) Q E s:=by
 refine Subscript_ (u5E h (fun o s₁ h₁=>u5E h₁ (fun i s₂ h₂=>?_) fun _ _ x=>x) fun _ _ x=>x);obtain⟨hT,h₂⟩:=h₂;unfold subscriptTail;refine u3r ?_;rw[getitemInPython_of_ne hT.not_modules];refine u3r (wpAny_specialOf hT hl ?_);have fin:wpAny (model prog w) A (subscripted slice false o i) (fun r s₃=>wpAny (model prog w) A (letTemporaryGo value o r >>= fun _=>pure r) Q E s₃) E s₂:=by
  rw[hs o i];exact wpAny_operating (u5E h₂ (fun r s₃ h₃=>u3r (wpAny_letTemporaryGo (u3u h₃))) fun _ _ x=>x)
 first
  | exact u3u (u3r fin)
  | exact u3r (u3u (u3r fin))
  | exact u3r fin
theorem z6c {X:Cx} {pins:List (Addr×Obj)} {σ:St} {H:Hp} {s:Shared} {a:Addr} {y:V} {o:Option V} (I:Inv X pins σ H s) (g:DGet H a y o):s.TypeIs (.ref a) "dict" :=by
 rcases g with⟨kvs,k,e,_,_⟩|⟨kvs,k,b,e,_,_,_⟩
 ·obtain⟨_,_,vs,_,dd⟩:=y3J I.hok e;exact dd.typeIs
 ·obtain⟨_,_,xs,_,dd⟩:=y3I I.hok e;exact dd.typeIs
noncomputable def y5c (td ty:TE):TE:=fun σ H Q=>td σ H fun x H1=>ty σ H1 fun y H2=>∃a v,x=.ref a/\DGet H2 a y (some v)/\Q v H2
noncomputable def y7h (ty td:TE):TE:=fun σ H Q=>ty σ H fun y H1=>td σ H1 fun x H2=>∃a o,x=.ref a/\DGet H2 a y o/\Q (.bl o.isSome) H2
noncomputable def z9W (ty td:TE):TE:=fun σ H Q=>ty σ H fun y H1=>td σ H1 fun x H2=>∃a o,x=.ref a/\DGet H2 a y o/\Q (.bl (!o.isSome)) H2
noncomputable def y5n (td ty tv:TE):TS:=fun D σ H=>tv σ H fun v H1=>td σ H1 fun x H2=>ty σ H2 fun y H3=>∃a H4,x=.ref a/\DPut H3 a y v H4/\D.nx σ H4
section
variable {X:Cx} {o i e value:Expr} {pos pos' tpos:Pos} {td ty tv:TE}
theorem xO (hu:X.A.units+1<cLine) (ho:PE X o td) (hi:PE X i ty) (hs:y7a i):PE X (.Subscript o i pos) (y5c td ty):=by
 intro pins s σ H Q I h;refine y4C PySem.F.slot_dict_getitem.lookup hs (thn (ho pins s σ H _ I h) fun u s1 ⟨x,H1,I1,rx,q1⟩=>thn (hi pins s1 σ H1 _ I1 q1) fun iv s2 ⟨y,H2,I2,ry,a,v,ex,g,q2⟩=>?_);subst ex;obtain rfl:u=u4J a:=rx;exact⟨z6c I2 g,y1G hu I2 g ry fun w' s3 I3 rw'=>⟨v,H2,I3,rw',q2⟩⟩
theorem y0A (hu:X.A.units+1<cLine) (hi:PE X i ty) (ho:PE X o td):PC X .NotIn i o (z9W ty td):=by
 intro pins s σ H Q I h;refine thn (hi pins s σ H _ I h) fun iv s1 ⟨y,H1,I1,ry,q1⟩=>thn (ho pins s1 σ H1 _ I1 q1) fun u s2 ⟨x,H2,I2,rx,a,ov,ex,g,q2⟩=>?_;subst ex;obtain rfl:u=u4J a:=rx;exact y4y hu I2 g ry fun s3 I3=>⟨.bl (!ov.isSome),H2,I3,rfl,q2⟩
theorem z3A (hu:X.A.units+1<cLine) (ho:PE X o td) (hi:PE X i ty) (hv:PE X value tv) (hs:swapsWith value (some (.Subscript o i pos')) pos.line X.env=pure false) :
  PS X (.Assign [.Subscript o i pos'] value pos) (y5n td ty tv):=by
 intro pins s σ H D I h;refine wpAny_Assign_Subscript (thn (hv pins s σ H _ I h) fun r s1 ⟨v,H1,I1,rv,q1⟩=>thn (ho pins s1 σ H1 _ I1 q1) fun u s2 ⟨x,H2,I2,rx,q2⟩=>thn (hi pins s2 σ H2 _ I2 q2) fun iv s3 ⟨y,H3,I3,ry,a,H4,ex,g,q3⟩=>?_) hs;subst ex;obtain rfl:u=u4J a:=rx;exact y1F hu I3 g ry rv fun s4 I4=>⟨σ,H4,I4,q3⟩
end
theorem y3K {P:Program} {w:World} {H:Hp} (h:Heap) (hb:sysModules<h.objs.size):ObjOk P w H (h.push { cls:=.type "dict",data:=.dict #[] }) h.objs.size (.dK []):=
 ⟨u4q _,beq_eq_false_iff_ne.mpr (Ne.symm (u4c hb)),[],.nil,Heap.DictOf.new h⟩
noncomputable def y3T:TE:=fun _ H Q=>∀p,H p=none->Q (.ref p) (upd H p (.dK []))
section
variable {X:Cx} {pos:Pos}
theorem z7a:PE X (.Dict [] [] pos) y3T:=fun pins s σ H Q I h=>
 wpAny_Dict_empty ⟨.ref s.heap.objs.size,_,I.laid (a:=s.heap.objs.size) (o:=.dK []) (t':=s.toks) (fun _ _ q=>u3v _ q) (u3y _) (y3K s.heap I.big),rfl,h _ (I.hok.fresh (u3y _))⟩
end
structure M1 (X:Cx) (o:Expr) (m:Str) (apos:Pos) (e:Expr) (cpos:Pos):Prop where
 base:attributeBase o m X.env (eval o X.env)=eval o X.env
 few:((backTo cpos (u4W [e] X.env)).all (fun x=>!x.1) && (backToKw cpos (keywordEach [] X.env)).all (fun x=>x.1.isSome)
  && decide (([e]:List Expr).length+([]:List Keyword).length+(if ([]:List Keyword).isEmpty then 0 else 1)<30))=true
 line:(apos.endLine == cpos.line)=true
 trees:backTo cpos (u4W [e] X.env)=[(false,eval e X.env)]
section
variable {X:Cx} {pins:List (Addr×Obj)} {σ:St} {H:Hp} {s:Shared} {a:Addr} {y d:V} {u r:Value} {o:Option V} {A:Around} {E:Value->Shared->Prop}
end
section
variable {X:Cx} {o e f:Expr} {apos cpos:Pos} {td ty tx:TE}
end
section
variable {X:Cx} {pins:List (Addr×Obj)} {σ:St} {H:Hp} {s:Shared} {a:Addr} {kvs:List (Key×V)} {A:Around} {E:Value->Shared->Prop}
end
section
variable {X:Cx} {pins:List (Addr×Obj)} {σ:St} {H:Hp} {s:Shared} {a:Addr} {y:V} {u:Value} {A:Around} {E:Value->Shared->Prop}
end
theorem z5W {prog:Program} {w:World} {A:Around} {R:Result->Shared->Prop} {s:Shared} {elt target iter:Expr} {ifs:List Expr} {scope:Scope} {pos:Pos} {it acc:Value} {env:Env} (J:Nat->Shared->Prop)
  (turn:∀n s,J n s->wpAny (model prog w) A (pyNext it) (fun r s₁=>match r with
   | none=>R (.ok .next) s₁
   | some v=>wpAny (model prog w) A (letOwnedTupleGo target it v) (fun _ s₁'=>wpAny (model prog w) A (assign target env v) (fun _ s₂=>
     wpAny (model prog w) A (forIn ifs true fun c r=>if r=true then do let ok ←isTrue c env (eval c env);pure (u5m ok) else pure (u5m r)) (fun ok s₃=>
      if ok=true then wpAny (model prog w) A (eval elt env) (fun x s₄=>
       wpAny (model prog w) A (call (.builtin "list.append") [acc,x]) (fun _ s₅=>∃m,m<n/\J m s₅) (fun _ _=>False) s₄) (fun _ _=>False) s₃
      else ∃m,m<n/\J m s₃) (fun _ _=>False) s₂) (fun _ _=>False) s₁') (fun _ _=>False) s₁) (fun _ _=>False) s)
  (n:Nat) (h:J n s):codeAny (model prog w) A (.compLoop (.ListComp elt [⟨target,iter,ifs,0⟩] scope pos) 0 it acc env) R s:=by
 refine codeAny_loop rfl J (fun n s hI=>?_) n h;show wpAny _ A ((compTurn (.ListComp elt [⟨target,iter,ifs,0⟩] scope pos) 0 it acc env).onRaise (fun x=>do noteFrame x env;theTreesLotGoes x)) _ _ s;refine wpAny_noted ?_;rw[compTurn_list];refine u3r (wpAny_standAt (u3r (u5E (turn n s hI) (fun r s₁ h₁=>?_) fun _ _ h'=>h'.elim)));cases r with
 | none=>exact u3u h₁
 | some v=>
  refine u3r (u5E h₁ (fun _ s₁' h₁'=>?_) fun _ _ h'=>h'.elim);refine u3r (u5E h₁' (fun _ s₂ h₂=>u3r (u5E h₂ (fun ok s₃ h₃=>?_) fun _ _ h'=>h'.elim)) fun _ _ h'=>h'.elim);cases ok with
  | false=>exact u3u ⟨rfl,h₃⟩
  | true=>exact u3r (u3r (u5E h₃ (fun x s₄ h₄=>u3r (u5E h₄ (fun _ s₅ h₅=>u3u (u3u ⟨rfl,h₅⟩)) fun _ _ h'=>h'.elim)) fun _ _ h'=>h'.elim))
noncomputable def xL (X:Cx) (N:List Str) (scope:Scope) (cl:List (Str×Addr)) (s:Shared) (H:Hp) (fp:List Addr):Cx:=
 { X with N:=N,s₀:=s,H₀:=H,env:=compEnvC scope cl s.heap.objs.size X.env,outer:=X.stack,ex:=fp,fn:=fun _=>false,pn:=[],xe:=fun _ _=>False }
structure CompSc (X:Cx) (own capt:List Str) (scope:Scope) (cl:List (Str×Addr)) (fr:List Nat):Prop where
 clos:closureFor scope X.env=pure cl
 nocell:∀y∈scope.names,y.2≠.cell
 kind:scope.kind=.function
 names:∀y∈scope.names,y.2=.local->scope.names.lookup y.1=some .local
 inn:∀y c,cl.lookup y=some c->X.env.cells.lookup y=some c
 has:∀y,((relabel scope X.env).names.lookup y=some .cell∨(relabel scope X.env).names.lookup y=some .free)->∃c,cl.lookup y=some c
 cap:∀(k:Nat) (y:Str),capt[k]?=some y->∃j c,fr[k]?=some j/\X.N[j]?=some y/\X.env.scope.names.lookup y=some .cell/\cl.lookup y=some c/\
  ((relabel scope X.env).names.lookup y=some .cell∨(relabel scope X.env).names.lookup y=some .free)
 len:capt.length=fr.length
theorem CompSc.none {X:Cx} {own:List Str} {scope:Scope} (h1:∀y∈scope.names,y.2≠.free) (h2:∀y∈scope.names,y.2≠.cell) (kind:scope.kind=.function) (names:∀y∈scope.names,y.2=.local->scope.names.lookup y.1=some .local) :
  CompSc X own [] scope [] [] where
 clos:=closureFor_none h1
 nocell:=h2
 kind:=kind
 names:=names
 inn:=fun y c e=>nomatch e
 has:=fun y e=>by
  have mem:∀(l:List (Str×NameKind)) (y:Str) (k:NameKind),l.lookup y=some k->∃z∈l,z.2=k:=by
   intro l
   induction l with
   | nil=>intro y k e;cases e
   | cons a r ih=>
    intro y k e;obtain⟨n,q⟩:=a;rw[u5O] at e;cases hy:y == n with
    | true=>rw[hy] at e;exact⟨(n,q),by simp,u5Y e⟩
    | false=>
     rw[hy] at e;obtain⟨z,hz,e2⟩:=ih y k e;exact⟨z,by simp [hz],e2⟩
  exfalso;have same:(relabel scope X.env).names=scope.names:=by
   unfold relabel;exact map_eq_self (l:=scope.names) fun x hx=>by
    obtain⟨n,k⟩:=x;have:(k == NameKind.free)=false:=by simpa using h1 _ hx
    simp [this]
  rw[same] at e;rcases e with e|e
  ·obtain⟨z,hz,e2⟩:=mem _ _ _ e;exact h2 z hz e2
  ·obtain⟨z,hz,e2⟩:=mem _ _ _ e;exact h1 z hz e2
 cap:=fun k y e=>by simp at e
 len:=rfl
noncomputable def st0 (own:List Str) (fr:List Nat) (σ:St):St:=own.map (fun _=>Option.none)++fr.map fun j=>(σ[j]?).join
theorem y1H {X:Cx} {pins:List (Addr×Obj)} {σ:St} {H:Hp} {s:Shared} {own capt:List Str} {scope:Scope} {cl:List (Str×Addr)} {fr:List Nat} {fp:List Addr} (C:CompSc X own capt scope cl fr)
  (I:Inv X pins σ H s) (hf:∀b∈fp,z8J X pins H b/\b<s.heap.objs.size):(xL X (own++capt) scope cl s H fp).Ok where
 mod:=I.ok.mod
 kind:=C.kind
 glob:=I.ok.glob
 blt:=I.ok.blt
 above:=u3y _
 inj:=fun x y c e1 e2=>I.ok.inj x y c (C.inn x c e1) (C.inn y c e2)
 has:=fun x e=>C.has x e
 cab:=fun x c e _=>by cases e
 hd:=I.ok.hd
 frames:=I.ok.frames
 stk:=.inl rfl
 exf:=fun b hb=>⟨u4c (hf b hb).2,fun x c e=>(hf b hb).1.2.2.2.2.1 x c (C.inn x c e)⟩
 bs:=I.bs
 bsz:=u5I I.ok.bsz I.sz
 noex:=fun b o e hb=>by
  rcases (hf b hb).1.2.2.2.1 with z|z
  ·exact I.ok.noex b o e z
  ·exact absurd (u4X (u4D e) (u5I I.ok.bsz z)) (u5n _)
 exfs:=fun b hb z=>by
  rcases u3w.mp (I.stkSub b z) with e|z
  ·exact (hf b hb).1.2.1 e
  ·exact (hf b hb).1.2.2.1 z
 funs:=I.stack
 frf:=I.stkFree
theorem z5T {X:Cx} {pins:List (Addr×Obj)} {σ:St} {H:Hp} {s:Shared} {own capt:List Str} {scope:Scope} {cl:List (Str×Addr)} {fr:List Nat} {fp:List Addr} {h':Heap} {t':Nat} {m':Str->Option Value} (C:CompSc X own capt scope cl fr)
  (I:Inv X pins σ H s) (hf:∀b∈fp,z8J X pins H b/\b<s.heap.objs.size) (hn:h'.Ns s.heap.objs.size m') (k:∀b o,s.heap.get? b=some o->h'.get? b=some o) :
  Inv (xL X (own++capt) scope cl s H fp) [] (st0 own fr σ) H { s with heap:=h',toks:=t' } where
 ok:=y1H C I hf
 os:=rfl
 bare:=I.bare
 base:=Un.kept k
 loc:=by
  obtain⟨m,_,hl⟩:=I.loc;refine⟨m',hn,fun i y v e1 e2 _=>?_⟩;have e1':(own++capt)[i]?=some y:=e1;unfold st0 at e2;by_cases hi:i<own.length
  ·rw[u4k (by simpa using hi)] at e2;rw[u4T] at e2;cases q:own[i]? with
   | none=>rw[q] at e2;cases e2
   | some _=>rw[q] at e2;cases e2
  ·rw[u4f (by simpa using hi)] at e2;rw[u4f (by simpa using hi)] at e1';simp only [u3z] at e2;obtain⟨j,c,f1,f2,f3,f4,f5⟩:=C.cap _ y e1';rw[u4T,f1] at e2;have e3:(σ[j]?).join=some v:=u5Y e2;have e4:σ[j]?=some (some v):=by
    cases q:σ[j]? with
    | none=>rw[q] at e3;cases e3
    | some z=>rw[q] at e3;exact congrArg some e3
   obtain⟨u,r,l⟩:=hl j y v f2 e4 (.inr (.inl f3));refine⟨u,r,.inr ⟨f5,c,f4,?_⟩⟩;rcases l with⟨k1,_⟩|⟨_,c',h1,h2⟩
   ·have k1':X.env.scope.names.lookup y=some .local:=k1;rw[f3] at k1';cases k1'
   ·rw[C.inn y c f4] at h1;cases h1;obtain⟨o,ho,hd⟩:=h2;exact⟨o,k _ _ ho,hd⟩
 cell:=fun y c e=>by
  obtain⟨v,o,ho,hd⟩:=I.cell y c (C.inn y c e);exact⟨v,o,k _ _ ho,hd⟩
 free:=I.hok.fresh (u3y _)
 freeC:=fun y c e=>I.freeC y c (C.inn y c e)
 pin:=fun p hp=>by
  have:p∈([]:List (Addr×Obj)):=hp;cases this
 hok:=I.hok.kept k
 len:=by
  show (st0 own fr σ).length=(own++capt).length;unfold st0;simp [C.len]
theorem z8z {X:Cx} {pins:List (Addr×Obj)} {σ σ':St} {H H':Hp} {s s':Shared} {N:List Str} {scope:Scope} {cl:List (Str×Addr)} {fp:List Addr} {pins':List (Addr×Obj)} {h':Heap}
  (I:Inv X pins σ H s) (hf:∀b∈fp,z8J X pins H b/\b<s.heap.objs.size) (J:Inv (xL X N scope cl s H fp) pins' σ' H' s') (hs:u5x s.heap.objs.size s'.heap h') :
  Inv X pins σ H' { s' with heap:=h' }:=by
 have fr:H' s.heap.objs.size=none:=J.free;have ne:∀ {b:Addr} {o:Obj},s.heap.get? b=some o->b≠s.heap.objs.size:=fun e=>u4c (u4D e);have B:Un (frs X.stack) fp H H' s.heap s'.heap:=J.base;refine I.call' (s':={ s' with heap:=h' }) (ch:=fp) J.os ?_ ?_ J.bare fun b hb=>⟨(hf b hb).1.2.2.2.1,(hf b hb).1.2.1,(hf b hb).1.2.2.2.2.1,(hf b hb).1.2.2.2.2.2⟩
 ·exact⟨fun b o e n h1 h2=>(hs.2 b (ne e)).trans (B.keep b o e n h1 h2),fun b o e n h1 h2=>let ⟨sl,q⟩:=B.slot b o e n h1 h2;⟨sl,(hs.2 b (ne e)).trans q⟩,B.free,
   fun b o e h1=>let ⟨o',q⟩:=B.there b o e h1;⟨o',(hs.2 b (ne e)).trans q⟩,B.tups,B.frzs,B.tbls⟩
 ·intro b ob e;refine (J.hok b ob e).stay (fun c w' hc q=>(hs.2 c ?_).trans q) (fun _ q=>q) fun _ _ q=>q;rintro rfl;rcases hc with rfl|hc
  ·rw[fr] at e;cases e
  ·rw[fr] at hc;cases hc
noncomputable def PTs (X:Cx) (ifs:List Expr) (t:TT):Prop:=
 ∀(pins:List (Addr×Obj)) (s:Shared) (σ:St) (H:Hp) (Q:Bool->Hp->Prop),Inv X pins σ H s->t σ H Q->
  wpAny (model X.prog X.w) X.A (forIn ifs true fun c r=>if r=true then do let ok ←isTrue c X.env (eval c X.env);pure (u5m ok) else pure (u5m r)) (TP X pins σ Q) X.xe s
noncomputable def z9S:TT:=fun _ H Q=>Q true H
theorem yx {X:Cx}:PTs X [] z9S:=fun _ _ _ H _ I h=>wpAny_tests_nil ⟨H,I,h⟩
theorem z9s {X:Cx} {c:Expr} {t:TT} (hc:PT X c t):PTs X [c] t:=fun pins s σ H Q I h=>wpAny_tests_one (hc pins s σ H Q I h)
noncomputable def y1k (wi:TI) (g:TG) (tt:TT) (te:TE) (own:List Str) (fr:List Nat):TE:=fun σ H Q=>wi σ H fun J H1=>∀D,H1 D=none->∃W:Nat->Nat->St->Hp->Prop,(∃m,W 0 m (st0 own fr σ) (upd H1 D (.lst [])))/\∀i m σc H,W i m σc H->
 (J.stop i H/\Q (.ref D) H)∨(J.go i H/\∃N:St->Hp->Prop,(∀σ' H',N σ' H'->∃m',m'<m/\W (i+1) m' σ' H')/\∀x H',J.yld i H x H'->g x σc H' fun σ2 H2=>tt σ2 H2 fun b H3=>
  if b=true then te σ2 H3 fun y H4=>∃ys,H4 D=some (.lst ys)/\ys.length<u4L/\N σ2 (upd H4 D (.lst (ys++[y]))) else N σ2 H3)
theorem z5U {X:Cx} {own capt:List Str} {scope:Scope} {cl:List (Str×Addr)} {fr:List Nat} {tg iter elt:Expr} {ifs:List Expr} {wi:TI} {g:TG} {tt:TT} {te:TE} {pos:Pos} (C:CompSc X own capt scope cl fr) (hc:X.calm=true)
  (hi:PI X tg iter wi) (hg:∀s H fp,PG (xL X (own++capt) scope cl s H fp) tg g) (ht:∀s H fp,PTs (xL X (own++capt) scope cl s H fp) ifs tt) (he:∀s H fp,PE (xL X (own++capt) scope cl s H fp) elt te)
  {pins:List (Addr×Obj)} {s:Shared} {σ:St} {H:Hp} {Q:VK} {RR:Value->Addr->Result->Shared->Prop} (I:Inv X pins σ H s) (h:y1k wi g tt te own fr σ H Q)
  (hR:∀(D C:Addr) (H':Hp) (s':Shared) (m:Str->Option Value),s'.heap.Ns C m->z8J X pins H' C->(∀h',u5x C s'.heap h'->Inv X pins σ H' { s' with heap:=h' })->Q (.ref D) H'->RR (.ref D) C (.ok .next) s') :
  wpAny (model X.prog X.w) X.A (eval iter X.env) (fun x s₁=>wpAny (model X.prog X.w) X.A (pyIter x) (fun it s₂=>wpAny (model X.prog X.w) X.A (newList []) (fun acc s₃=>
   wpAny (model X.prog X.w) X.A (newFunctionEnv scope X.env.globals cl [] X.env.qual none .none (some X.env)) (fun cenv s₄=>
    codeAny (model X.prog X.w) X.A (.compStart (.ListComp elt [⟨tg,iter,ifs,0⟩] scope pos) 0 it acc { cenv with scope:=relabel scope X.env }) (RR acc cenv.locals) s₄) X.xe s₃) X.xe s₂) X.xe s₁) X.xe s:=by
 refine thn (hi pins s σ H _ I h) fun v s1 h1=>thn h1 fun itv s2 h2=>?_;obtain⟨it,fp,tn,J,H2,e,I2,T,st2,f2,h2⟩:=h2;subst e;obtain⟨W,⟨m0,w0⟩,turn⟩:=h2 s2.heap.objs.size I2.fresh;refine u4r ?_;have I3:Inv X pins σ (upd H2 s2.heap.objs.size (.lst [])) { s2 with heap:=s2.heap.push { cls:=.type "list",data:=.seq ([]:List Value).toArray } }:=I2.lnew (ys:=[]) (its:=[]) (t':=s2.toks) .nil (u4q _);generalize hs3:({ s2 with heap:=s2.heap.push { cls:=.type "list",data:=.seq ([]:List Value).toArray } }:Shared)=s3 at I3 ⊢;have keep3:∀b o,s2.heap.get? b=some o->s3.heap.get? b=some o:=fun b o e=>by rw[←hs3];exact u3v _ e
 have sz3:s2.heap.objs.size<s3.heap.objs.size:=by rw[←hs3];show _<(s2.heap.push _).objs.size;rw[Heap.size_push];exact Nat.lt_succ_self _
 have fin:∀b∈fp,b<s2.heap.objs.size:=fun b hb=>by obtain⟨o,e,_⟩:=T.obj _ _ st2 b hb;exact u4D e
 have f3:∀b∈fp,z8J X pins (upd H2 s2.heap.objs.size (.lst [])) b/\b<s3.heap.objs.size:=fun b hb=>by
  obtain⟨a1,a2⟩:=f2 b hb;exact⟨⟨by rw[zb (u4c (fin b hb))];exact a1,a2⟩,Nat.lt_trans (fin b hb) sz3⟩
 refine wpAny_newFunctionEnv C.nocell (by intro y hy;simp at hy) (fun h4 hn4 hs4=>?_) C.kind;have keep4:∀b o,s3.heap.get? b=some o->h4.get? b=some o:=fun b o e=>(hs4.2 b (u4c (u4D e))).trans (u3v _ e);have I4:Inv (xL X (own++capt) scope cl s3 (upd H2 s2.heap.objs.size (.lst [])) fp) [] (st0 own fr σ) (upd H2 s2.heap.objs.size (.lst [])) { s3 with heap:=h4,toks:=s3.toks+([]:List (Str×Value)).length }:=z5T C I3 f3 hn4 keep4;have st4:tn 0 h4:=T.keep _ _ _ st2 fun b _ o e=>keep4 b o (keep3 b o e);generalize hs5:({ s3 with heap:=h4,toks:=s3.toks+([]:List (Str×Value)).length }:Shared)=s5 at I4 ⊢;have st5:tn 0 s5.heap:=by rw[←hs5];exact st4
 generalize hX:xL X (own++capt) scope cl s3 (upd H2 s2.heap.objs.size (.lst [])) fp=Y at I4;have hY1:Y.prog=X.prog:=by rw[←hX];rfl
 have hY2:Y.w=X.w:=by rw[←hX];rfl
 have hY3:Y.K=X.K:=by rw[←hX];rfl
 have hY4:Y.A=X.A:=by rw[←hX];rfl
 have hY5:Y.calm=true:=by rw[←hX];exact hc
 have hY6:Y.env=compEnvC scope cl s3.heap.objs.size X.env:=by rw[←hX];rfl
 have hY7:Y.xe=fun _ _=>False:=by rw[←hX];rfl
 have gY:PG Y tg g:=by rw[←hX];exact hg _ _ _
 have tY:PTs Y ifs tt:=by rw[←hX];exact ht _ _ _
 have eY:PE Y elt te:=by rw[←hX];exact he _ _ _
 have fY:∀ {H':Hp},(∀b∈fp,H' b=none)->∀b∈fp,z8J Y [] H' b:=fun {H'} hn b hb=>by
  have ok:=I4.ok;refine⟨hn b hb,(ok.exf b (by rw[←hX];exact hb)).1,ok.exfs b (by rw[←hX];exact hb),.inl (by rw[←hX];exact hb),fun x c e=>(ok.exf b (by rw[←hX];exact hb)).2 x c e,fun p hp=>?_⟩;have:p∈([]:List (Addr×Obj)):=by rw[←hX] at hp;exact hp
  cases this
 have loop:∀s6,s6=s5->codeAny (model X.prog X.w) X.A (.compLoop (.ListComp elt [⟨tg,iter,ifs,0⟩] scope pos) 0 (.ref it) (.ref s2.heap.objs.size) (compEnvC scope cl s3.heap.objs.size X.env)) (RR (.ref s2.heap.objs.size) s3.heap.objs.size) s6:=by
  rintro s6 rfl;refine z5W (fun n s'=>∃i σ' H',Inv Y [] σ' H' s'/\tn i s'.heap/\(∀b∈fp,H' b=none)/\W i n σ' H') ?_ m0 ⟨0,_,_,I4,st5,fun b hb=>(f3 b hb).1.1,w0⟩;rintro n s7 ⟨i,σ7,H7,I7,st7,fr7,w7⟩;have pn:=hY1;have pw:=hY2;rcases turn i n σ7 H7 w7 with⟨stop,qn⟩|⟨go,N,hN,step⟩
  ·have z:=T.done Y hY1 hY2 hY3 hY5 i [] s7 σ7 H7 (fun _ _=>False) I7 (fY fr7) st7 stop;rw[hY4] at z;refine thn z fun r s8 ⟨hr,I8⟩=>?_;subst hr;obtain⟨m8,hn8,_⟩:=I8.loc;rw[hY6] at hn8;have fC:H7 s3.heap.objs.size=none:=by have z:=I8.free;rw[hY6] at z;exact z
   refine hR _ _ H7 s8 m8 hn8 (I3.fpOk (u3y _) fC) (fun h' sb=>?_) qn;rw[←hX] at I8;exact z8z I3 f3 I8 sb
  ·have z:=T.item Y hY1 hY2 hY3 hY5 i [] s7 σ7 H7 (fun _ _=>False) I7 (fY fr7) st7 go;rw[hY4] at z;refine thn z fun r s8 ⟨u,hr,h8⟩=>?_;subst hr;refine thn h8 fun _ s9 ⟨x,H9,I9,r9,y9,st9,fr9⟩=>?_;have I9':=I9.pinned (fY fr9) (T.obj _ _ st9);have z2:=gY _ s9 σ7 H9 x u _ I9' r9 (step x H9 y9);rw[hY1,hY2,hY4,hY6,hY7] at z2;refine thn z2 fun _ sA ⟨σA,HA,IA,qA⟩=>?_;have z3:=tY _ sA σA HA _ IA qA;rw[hY1,hY2,hY4,hY6,hY7] at z3;refine thn z3 fun b sB ⟨HB,IB,qB⟩=>?_;have again:∀ {σZ:St} {HZ:Hp} {sZ:Shared},Inv Y ([]++z4g fp s9.heap) σZ HZ sZ->N σZ HZ->∃m,m<n/\∃i σ' H',Inv Y [] σ' H' sZ/\tn i sZ.heap/\(∀b∈fp,H' b=none)/\W i m σ' H':=fun {σZ HZ sZ} IZ nZ=>by
    obtain⟨m',hm,wZ⟩:=hN σZ HZ nZ;refine⟨m',hm,i+1,σZ,HZ,IZ.unpinned,T.keep _ _ _ st9 fun b hb o e=>(IZ.pin (b,o) (u4U _ (u4U _ (qV hb e)))).1,fun b hb=>?_,wZ⟩;obtain⟨o,e,d⟩:=T.obj _ _ st9 b hb;exact (IZ.pin (b,o) (u4U _ (u4U _ (qV hb e)))).2.1
   cases b with
   | false=>exact again IB qB
   | true=>
    have z4:=eY _ sB σA HB _ IB qB;rw[hY1,hY2,hY4,hY6,hY7] at z4;refine thn z4 fun y sC ⟨vy,HC,IC,rC,ys,hD,hz,nC⟩=>?_;have z5:=yu (X:=Y) _ sC σA HC (.ref s2.heap.objs.size) [vy] (.ref s2.heap.objs.size) [y] (fun _ H'=>N σA H') IC rfl (.cons rC .nil) ⟨_,ys,vy,rfl,rfl,hD,hz,nC⟩;rw[hY1,hY2,hY4,hY7] at z5;exact thn z5 fun _ sD ⟨_,HD,ID,_,nD⟩=>again ID nD
 exact codeAny_compStart_list (loop _ rfl) (T.self _ 0 _ _ _ st5 (loop _ rfl))
theorem yz {X:Cx} {own capt:List Str} {scope:Scope} {cl:List (Str×Addr)} {fr:List Nat} {tg iter elt:Expr} {ifs:List Expr} {wi:TI} {g:TG} {tt:TT} {te:TE} {pos:Pos} (C:CompSc X own capt scope cl fr) (hc:X.calm=true)
  (hi:PI X tg iter wi) (hg:∀s H fp,PG (xL X (own++capt) scope cl s H fp) tg g) (ht:∀s H fp,PTs (xL X (own++capt) scope cl s H fp) ifs tt) (he:∀s H fp,PE (xL X (own++capt) scope cl s H fp) elt te)
  (hs:∀x,foldedSetIterable iter X.env x=pure x:=by intro _;rfl):PE X (.ListComp elt [⟨tg,iter,ifs,0⟩] scope pos) (y1k wi g tt te own fr):=by
 intro pins s σ H Q I h;rw[eval_ListComp];refine wpAny_comprehension_free (use:=none) rfl hs C.clos C.kind C.names ?_;exact z5U (RR:=fun acc C=>compPost (model X.prog X.w) X.A X.xe none (EP X pins σ Q) acc C) C hc hi hg ht he I h fun D C H' s' m hn _ hI q=>⟨m,hn,fun h' sb=>⟨.ref D,H',hI h' sb,rfl,q⟩⟩
theorem z1x {X:Cx} {own capt:List Str} {scope:Scope} {cl:List (Str×Addr)} {fr:List Nat} {tg iter elt:Expr} {ifs:List Expr} {wi:TI} {g:TG} {tt:TT} {te:TE} {pos spos py:Pos} {y:Str} {i:Nat} (hN:X.N.Nodup) (hi':X.N[i]?=some y) (hy:Loc X.env.scope y) (C:CompSc X own capt scope cl fr) (hc:X.calm=true)
  (hi:PI X tg iter wi) (hg:∀s H fp,PG (xL X (own++capt) scope cl s H fp) tg g) (ht:∀s H fp,PTs (xL X (own++capt) scope cl s H fp) ifs tt) (he:∀s H fp,PE (xL X (own++capt) scope cl s H fp) elt te)
  (hsw:swapsWith (.ListComp elt [⟨tg,iter,ifs,0⟩] scope pos) (some (.Name y py)) spos.line X.env=pure true:=by rfl)
  (hs:∀x,foldedSetIterable iter X.env x=pure x:=by intro _;rfl) (hf:X.fn y=true∨X.env.scope.names.lookup y=some .local:=by first|exact .inl rfl|exact .inr rfl|assumption) :
  PS X (.Assign [.Name y py] (.ListComp elt [⟨tg,iter,ifs,0⟩] scope pos) spos) (y5f (y1k wi g tt te own fr) (qf i)):=by
 intro pins s σ H D I h;rw[exec_Assign_Name_used _ _ _ _ hsw];refine u3r (wpAny_standAt (u3r ?_));show wpAny _ X.A (do let _ ←comprehension (.ListComp elt [⟨tg,iter,ifs,0⟩] scope pos) scope X.env _ (newList []) false (eval iter X.env) (some (assign (.Name y py) X.env))) _ _ s;refine u3r (u5E (wpAny_comprehension_free (use:=some (assign (.Name y py) X.env)) (Q:=fun _ s'=>SP X pins D .next s') rfl hs C.clos C.kind C.names ?_) (fun _ s' hq=>u3u (u3u hq)) fun _ _ e=>e);refine z5U (RR:=fun acc C=>compPost (model X.prog X.w) X.A X.xe (some (assign (.Name y py) X.env)) (fun _ s'=>SP X pins D .next s') acc C) C hc hi hg ht he I h fun Dn Cn H' s' m hn F hI q=>?_;show wpAny _ X.A (assign (.Name y py) X.env (.ref Dn)) _ _ _;have IX:Inv X pins σ H' s':=hI s'.heap (.refl ..);refine wpAny_assign_Name (z4D IX hN hi' hy (v:=.ref Dn) rfl (fun s'' I'' ⟨a,sb,ha⟩=>?_) hf);have na:Cn≠a:=by
  rcases ha with z|z
  ·rw[z];exact F.2.1
  ·exact fun q=>F.2.2.2.2.1 _ _ z q.symm
 refine⟨m,hn.sameBut sb na,fun h' sb'=>⟨_,H',?_,q⟩⟩;exact I''.turned (t':=s''.toks) (fun b o hb e=>(sb'.2 b hb).trans e) F.1 F.2.1 F.2.2.2.1 F.2.2.2.2.1 F.2.2.2.2.2
noncomputable def Has (P:Program) (w:World) (K:u3q) (mg:Str->Option Value) (base:Heap) (k:Nat) (x:Str) (ps:List Str) (sp:Sp):Prop:=
 ∃f fd,FnOk P w K mg base CX0 k f fd ps sp/\(∀us:List Value,us.length=ps.length->bindArgs fd ⟨us,[]⟩=pure (ps.zip us))/\u5L K (.ref f)=true/\mg x=some (.ref f)/\∃oc od osl,K.lookup f=some ⟨oc,od,.func fd,osl⟩
theorem Has.mono {P:Program} {w:World} {K:u3q} {mg:Str->Option Value} {base:Heap} {j k:Nat} {x:Str} {ps:List Str} {sp:Sp} (h:Has P w K mg base j x ps sp) (hk:j<=k):Has P w K mg base k x ps sp:=
 let ⟨f,fd,F,b⟩:=h
 ⟨f,fd,F.mono hk,b⟩
theorem zS {X:Cx} {k:Nat} {x:Str} {ps:List Str} {sp:Sp} {p pos:Pos} {e:Expr} {es:List Expr} {t:TA} (h:Has X.prog X.w X.K X.mg X.base k x ps sp) (hr:Room k X.A) (ha:PA X (e::es) t) (hg:Gl X x:=by rfl)
  (hdb:(x == ("__debug__" : Str))=false:=by decide) (he:u4W (e::es) X.env=(false,eval e X.env)::u4W es X.env:=by rfl) (hpl:(backTo pos (u4W es X.env)).any (·.1)=false:=by rfl) :
  PE X (.Call (.Name x p) (e::es) [] pos) (z5u sp [] E0 t):=by
 obtain⟨f,fd,F,hb,hk,hm,_⟩:=h;exact z9z F hr hg hm hk (.all hb) .nil y0B ha hdb he hpl
noncomputable def TF (K:u3q) (mg:Str->Option Value) (x:Str) (st:Stmt):Prop:=∃f fd,Fun K x x st f fd/\mg x=some (.ref f)
theorem zl {K:u3q} {h:Heap} {mg:Str->Option Value} {x:Str} {st:Stmt} {f:Addr} {oc:Value} {od an:Option Addr} {osl:Array (Option Value)} {kV doc pm cdv ct:Value} (X:K.In h) (G:h.Ns u4z mg)
  (a:PySem.W.nsIn K u4z x=some (some (.ref f))) (l:K.lookup f=some ⟨oc,od,.func (u6F x x (xz st) (yb st) (zK st) .none kV doc pm an cdv ct),osl⟩) (c:PySem.W.codeIn K cdv x=true) (k:u5L K (.ref f)=true):TF K mg x st:=
 ⟨f,_,y3k l c k,PySem.W.mg_of X G a⟩
theorem TF.has {P:Program} {w:World} {K:u3q} {mg:Str->Option Value} {base:Heap} {x:Str} {st:Stmt} {N ps:List Str} {k:Nat} {sp:Sp} (T:TF K mg x st) (S:FnScope N ps (zK st))
  (hb:∀(kV doc pm:Value) (an:Option Addr) (cdv ct:Value) (us:List Value),us.length=ps.length->bindArgs (u6F x x (xz st) (yb st) (zK st) .none kV doc pm an cdv ct) ⟨us,[]⟩=pure (ps.zip us))
  (len:∀vs H Q E,sp vs H Q E->vs.length=ps.length)
  (hbody:∀(f:Addr) (cdv:Value) (A:Around) (outer:List Env) (s:Shared) (H:Hp) (vs:List V) (Q:VK) (E:XK),Room k (A.deeper (envOfC x (zK st) s.heap.objs.size f cdv))->sp vs H Q E->
   ∃t,PSs (z1G CX0 P w K mg base N x (zK st) f cdv A outer s H E).nox (yb st) t/\t { nx:=fun _ H'=>Q .non H',rt:=Q } (j8 N vs) H):Has P w K mg base (k+1) x ps sp:=by
 obtain⟨f,fd,F,m⟩:=T;have ok:=F.ok (P:=P) (w:=w) (mg:=mg) (base:=base) S len fun cdv A outer s H vs Q E hr hsp=>hbody f cdv A outer s H vs Q E hr hsp;obtain⟨oc,od,kV,doc,pm,an,cdv,ct,osl,rfl,lk,hcd⟩:=F.ex;exact⟨f,_,ok,hb kV doc pm an cdv ct,F.kp,m,oc,od,osl,lk⟩
theorem y4k {P:Program} {w:World} {K:u3q} {mg:Str->Option Value} {h:Heap} {k:Nat} {sp:Sp} {fa:Addr} (KX:K.In h) (G:h.Ns u4z mg) (hfa:mg "law" = some (.ref fa))
  (H:∀base:Heap,K.In base->base.Ns u4z mg->Has P w K mg base k "law" ["script"] sp) :
  ∃fd:FuncData,(∀(s:Shared) (v:Value),BindsTo s fd ⟨[v],[]⟩ [("script",v)])/\∀base:Heap,K.In base->base.Ns u4z mg->FnOk P w K mg base CX0 k fa fd ["script"] sp:=by
 obtain⟨f,fd,F,hb,hk,hm,oc,od,osl,hl⟩:=H h KX G;rw[hfa] at hm;cases hm;refine⟨fd,fun s v=>.of_eq (hb [v] rfl),fun base kb nb=>?_⟩;obtain⟨f',fd',F',_,_,hm',oc',od',osl',hl'⟩:=H base kb nb;rw[hfa] at hm';cases hm';rw[hl] at hl';cases hl';exact F'
theorem z6f {ns:List Int}:∀z∈ns,u4d z<=PySem.W.WData.weightAll (ns.map PySem.W.WData.int):=by
 induction ns with
 | nil=>intro z hz;cases hz
 | cons a r ih=>
  intro z hz;rw[u4j];show _<=PySem.W.WData.weight (.int a)+1+PySem.W.WData.weightAll (r.map PySem.W.WData.int);rcases u3w.mp hz with e|hz
  ·subst e;have:PySem.W.WData.weight (.int z)=u4d z:=rfl;omega
  ·have:=ih z hz;omega
open PySem.W in
theorem y2n {l:PySem.W.OpenLaw} {k:Nat} {q:Program} {loose:List Str} {XP:(Str->Option Value)->Heap->Prop} {YP:World->Heap->Prop} {d:DefRec} {K:Params->u3q} {sp:u3q->Sp}
  (hn:l.most=some 63) (hdf:d.params.defaults=[]) (hr:Room k callerA)
  (hY:∀(w:World) (h:Heap),YP w h->(K w.params).In h)
  (F:∀(w:World) (mg:Str->Option Value) (fa:Addr) (h:Heap),(K w.params).In h->h.Ns u4z mg->mg d.name=some (.ref fa)->
   ∃fd:FuncData,(∀(s:Shared) (u:Value),BindsTo s fd ⟨[u],[]⟩ [("script",u)])/\
    ∀base:Heap,(K w.params).In base->base.Ns u4z mg->FnOk l.prog w (K w.params) mg base CX0 k fa fd ["script"] (sp (K w.params)))
  (hsp:∀(K:u3q) (H:Hp) (a:Addr) (ns:List Int),ns.length<=63->(∀z∈ns,u4d z<=2^20)->SqL K H a (ns.map V.int)->sp K [.ref a] H (fun v _=>v=.bl true) fun _ _ _=>False) :
  PySem.W.WalkO q loose XP YP l.row.toRowW d [] (fun f vs=>PySem.call f vs):=by
 intro w s₀ s₁ mg mb G Y fa o pm cd doc dV kV ho hd hcd hD hmg hg args vals as hpre hlay hrd hwl hlo;obtain rfl:dV=.none:=Dflts.none hD hdf;obtain rfl:kV=.none:=Dflts.noKw hD;obtain⟨a,vs,ns,rfl,rfl,hobj,hints,hlen⟩:=Att.script_of hn hpre hwl;have hbits:∀z∈ns,u4d z<=2^20:=fun z hz=>by
  have h1:WData.layable (WData.list (ns.map WData.int))=true:=by
   have:=hlay;simp only [WData.layableAll,List.all_cons,List.all_nil,Bool.and_true] at this;exact this
  unfold WData.layable at h1;have h2:WData.weight (WData.list (ns.map WData.int))<=2^20:=by
   have:=(Bool.and_eq_true_iff.mp h1).2;exact of_decide_eq_true this
  exact u5I (z6f z hz) h2
 have KX:=hY w _ Y;obtain⟨fd,hb,hF⟩:=F w mg fa _ KX G.T.g hmg;refine enter_call (codeAny_mono (y2o (CX:=CX0) (sp:=sp (K w.params)) KX G.T.g G.T.b G.T.builtins G.T.nolimit hg hobj hints (u5I hlen (by decide)) hr hF hb (fun H _ hS=>hsp _ H a ns hlen hbits hS) fun _ _ _ z=>z) fun r s' hq=>?_);obtain⟨rfl,h2,h3,h4⟩:=hq;exact⟨.inl ⟨.bool true,.bool true,[],rfl,fun _=>rfl,.bool true,Att.post_true l _,fun _=>⟨List.Pairwise.nil,fun _ hm=>(nomatch hm)⟩⟩,h2,h3,h4⟩
theorem xy {X:Cx}:OpR X (binaryOp .Mult) (rI IntMulOk fun i j=>.int (i*j)):=opI fun _ _ _ _ _ _ _ hc q=>mul_int q hc
noncomputable def z9I (_ j:Int):Prop:=0<j/\j.natAbs.log2<9000
theorem zk {X:Cx}:OpR X (binaryOp .FloorDiv) (rI z9I fun i j=>.int (i/j)):=opI fun i j _ _ _ _ _ hc q=>by
 refine floordiv_int (by have:=hc.1;omega) ?_ (.inl (PyProof.noPylong_of_log2 hc.2));rw[Int.fdiv_eq_ediv_of_nonneg i (u6U hc.1)];exact q
theorem mok {i j:Int} (m n:Nat) (h1:i.natAbs<2^m) (h2:j.natAbs<2^n) (h:m+n<=134217728):IntMulOk i j:=IntMulOk.of_le (intBits_le_iff.mpr h1) (intBits_le_iff.mpr h2) h
theorem y6q {i j:Int} (h1:-(2^64)<j) (h2:j<2^64):IntMulOk i j:=.of_right (intBits_le_64 h1 h2)
theorem z7x {i j:Int} (n:Nat) (h0:0<j) (h:j.natAbs<2^n) (hn:n<=9000):z9I i j:=⟨h0,u4X ((Nat.log2_lt (by omega)).mpr h) hn⟩
noncomputable def y5q (K:u3q):List V->Hp->VK->Prop:=fun xs H Q=>∃x T t b,xs=[x,.ty T]/\TyOf K H x t/\PySem.W.kitOne K t (.type T)=some b/\Q (.bl b) H
theorem z3s {X:Cx}:CallR X (.builtin "isinstance") (y5q X.K):=by
 intro pins s σ H xs us Q I r h;obtain⟨x,T,t,b,rfl,ty,e,q⟩:=h;obtain⟨u,c,rfl,r1,r2⟩:=Vals.two r;obtain rfl:c=Value.type T:=r2;exact z4y I r1 ty e fun tk=>⟨.bl b,H,I.tok tk,rfl,q⟩
section
variable {D:Ends} {σ:St} {H:Hp} {Q:VK}
theorem z2N {t u:TS}:y7F t u D σ H=t { D with nx:=u D } σ H:=rfl
theorem z2V {c:TT} {t u:TS}:y7K c t u D σ H=c σ H fun b H1=>if b=true then t D σ H1 else u D σ H1:=rfl
theorem z2d {te:TE} {g:TG}:y5f te g D σ H=te σ H fun x H1=>g x σ H1 D.nx:=rfl
theorem vn {i:Nat} {v:V} {R:St->Hp->Prop}:qf i v σ H R=R (σ.set i (some v)) H:=rfl
theorem z2P {te:TE}:y7H te D σ H=te σ H D.rt:=rfl
theorem vP:y6g D σ H=D.rt .non H:=rfl
theorem vS:y5X D σ H=D.nx σ H:=rfl
theorem kM:y5e D σ H=D.bk σ H:=rfl
theorem vZ:y6j D σ H=D.ct σ H:=rfl
theorem vY {te:TE}:y5b te D σ H=te σ H fun _ H1=>D.nx σ H1:=rfl
theorem y1l {v:V}:tC v σ H Q=Q v H:=rfl
theorem y4A {i:Nat} {v:V} (h:σ[i]?=some (some v)):z6r i σ H Q=Q v H:=propext ⟨fun⟨u,e,q⟩=>by rw[h] at e;cases e;exact q,fun q=>⟨v,h,q⟩⟩
theorem z6q {v:V} {l:St}:z6r 0 (some v::l) H Q=Q v H:=y4A rfl
theorem z6p {i:Nat} {o:Option V} {l:St}:z6r (i+1) (o::l) H Q=z6r i l H Q:=rfl
theorem z6v {r:R2} {ta tb:TE}:tOp r ta tb σ H Q=ta σ H fun x H1=>tb σ H1 fun y H2=>r x y H2 Q:=rfl
theorem z6s {r:V->Hp->VK->Prop} {ta:TE}:tUn r ta σ H Q=ta σ H fun x H1=>r x H1 Q:=rfl
theorem z7V {g:Int->Int->V} {i j:Int}:rI0 g (.int i) (.int j) H Q=Q (g i j) H:=propext ⟨fun⟨a,b,e1,e2,q⟩=>by cases e1;cases e2;exact q,fun q=>⟨i,j,rfl,rfl,q⟩⟩
theorem y2I {C:Int->Int->Prop} {g:Int->Int->V} {i j:Int}:rI C g (.int i) (.int j) H Q=(C i j/\Q (g i j) H):=propext ⟨fun⟨a,b,e1,e2,q⟩=>by cases e1;cases e2;exact q,fun q=>⟨i,j,rfl,rfl,q⟩⟩
theorem y2H {g:Int->V} {i:Int}:rU g (.int i) H Q=Q (g i) H:=propext ⟨fun⟨a,e1,q⟩=>by cases e1;exact q,fun q=>⟨i,rfl,q⟩⟩
theorem z2v {i j:Int}:rEq (.int i) (.int j) H Q=Q (.bl (decide (i=j))) H:=propext ⟨fun⟨_,q⟩=>by simpa using q,fun q=>⟨rfl,by simpa using q⟩⟩
theorem z2u {i j:Int}:rNe (.int i) (.int j) H Q=Q (.bl (!decide (i=j))) H:=propext ⟨fun⟨_,q⟩=>by simpa using q,fun q=>⟨rfl,by simpa using q⟩⟩
theorem vO {t:TE} {R:Bool->Hp->Prop}:y4B t σ H R=t σ H fun x H'=>∃k,x=.bl k/\R k H':=rfl
theorem y3G {b:Bool} {R:Bool->Prop}:(∃k,V.bl b=.bl k/\R k)=R b:=propext ⟨fun⟨k,e,q⟩=>by cases e;exact q,fun q=>⟨b,rfl,q⟩⟩
theorem z7v {a:Addr} {R:Addr->Prop}:(∃k,V.ref a=.ref k/\R k)=R a:=propext ⟨fun⟨k,e,q⟩=>by cases e;exact q,fun q=>⟨a,rfl,q⟩⟩
theorem z7w {a:Int} {R:Int->Prop}:(∃k,V.int a=.int k/\R k)=R a:=propext ⟨fun⟨k,e,q⟩=>by cases e;exact q,fun q=>⟨a,rfl,q⟩⟩
theorem z2e {t u:TT} {R:Bool->Hp->Prop}:y7P t u σ H R=t σ H fun c H1=>if c=true then u σ H1 R else R false H1:=rfl
theorem z6u {t u:TT} {R:Bool->Hp->Prop}:tOr t u σ H R=t σ H fun c H1=>if c=true then R true H1 else u σ H1 R:=rfl
theorem z2S {t:TT} {R:Bool->Hp->Prop}:y7I t σ H R=t σ H fun c H1=>R (!c) H1:=rfl
theorem v7 {ta tb:TE}:y5g ta tb σ H Q=ta σ H fun x H1=>∃c,x=.bl c/\if c=true then tb σ H1 Q else Q (.bl false) H1:=rfl
theorem z2R {ta tb:TE}:y7g ta tb σ H Q=ta σ H fun x H1=>∃c,x=.bl c/\if c=true then Q (.bl true) H1 else tb σ H1 Q:=rfl
theorem vR {ta:TE}:y6h ta σ H Q=ta σ H fun x H1=>∃c,x=.bl c/\Q (.bl (!c)) H1:=rfl
theorem z6w {t:TT} {ta tb:TE}:tIf t ta tb σ H Q=t σ H fun c H1=>if c=true then ta σ H1 Q else tb σ H1 Q:=rfl
theorem z2T {R:List V->Hp->Prop}:y1b σ H R=R [] H:=rfl
theorem v3 {ta:TE} {tr:TA} {R:List V->Hp->Prop}:z5t ta tr σ H R=ta σ H fun x H1=>tr σ H1 fun xs H2=>R (x::xs) H2:=rfl
theorem z2L {t:TA}:y7E t σ H Q=t σ H fun xs H1=>xs.length<=u4L/\∀p,H1 p=none->Q (.ref p) (upd H1 p (.tup xs)):=rfl
theorem z2U {t:TA}:y7J t σ H Q=t σ H fun xs H1=>xs.length<=u4L/\∀p,H1 p=none->Q (.ref p) (upd H1 p (.lst xs)):=rfl
theorem v6 {sp:Sp} {dvs:List V} {E:XK} {t:TA}:z5u sp dvs E t σ H Q=t σ H fun vs H1=>sp (vs++dvs) H1 Q E:=rfl
theorem z6x {r:List V->Hp->VK->Prop} {t:TA}:tCB r t σ H Q=t σ H fun vs H1=>r vs H1 Q:=rfl
theorem kL {r r':R2} {ta tb tc:TE}:y3U r r' ta tb tc σ H Q=ta σ H fun x H1=>tb σ H1 fun y H2=>r x y H2 fun z H3=>∃k,z=.bl k/\(if k=true then tc σ H3 fun w' H4=>r' y w' H4 Q else Q (.bl false) H3):=rfl
theorem z2Q {i j:Nat} {ta:TA}:y7f i j ta D σ H=ta σ H fun vs H1=>∃v w,vs=[v,w]/\D.nx ((σ.set i (some v)).set j (some w)) H1:=rfl
theorem z7u {v w:V} {R:V->V->Prop}:(∃a b,[v,w]=[a,b]/\R a b)=R v w:=propext ⟨fun⟨a,b,e,q⟩=>by cases e;exact q,fun q=>⟨v,w,rfl,q⟩⟩
theorem z2c {i:Nat} {te:TE} {ti:TIp}:y7O i te ti D σ H=z6r i σ H fun x _=>te σ H fun y H1=>ti x y H1 fun z H2=>D.nx (σ.set i (some z)) H2:=rfl
theorem z7p {f:Int->Int->Int} {i j:Int}:ipI f (.int i) (.int j) H Q=Q (.int (f i j)) H:=propext ⟨fun⟨a,b,e1,e2,q⟩=>by cases e1;cases e2;exact q,fun q=>⟨i,j,rfl,rfl,q⟩⟩
theorem z6t {r:V->Option Int->Option Int->Hp->VK->Prop} {te:TE} {tl th:TO}:tSl r te tl th σ H Q=te σ H fun x H1=>tl σ H1 fun l H2=>th σ H2 fun u H3=>r x l u H3 Q:=rfl
theorem qN {R:Option Int->Hp->Prop}:z9U σ H R=R none H:=rfl
theorem vQ {t:TE} {R:Option Int->Hp->Prop}:y5W t σ H R=t σ H fun x H1=>∃i,x=.int i/\R (some i) H1:=rfl
theorem z6y {K:u3q} {T:String} {r:V->List V->Hp->VK->Prop} {to:TE} {t:TA}:tBM K T r to t σ H Q=to σ H fun x H1=>tyV K T x H1/\t σ H1 fun xs H2=>r x xs H2 Q:=rfl
theorem vN {R:Bool->Hp->Prop}:z9S σ H R=R true H:=rfl
theorem z3j {to ti:TE} {t:y7Y} {v:V} {R:St->Hp->Prop}:y7y to ti t v σ H R=to σ H fun o H1=>ti σ H1 fun i H2=>t o i v H2 fun H3=>R σ H3:=rfl
theorem z3N {c:Prop} [Decidable c] {A B:Prop}:(if c then A else B)=((c->A)/\(¬c->B)):=by
 by_cases h:c
 ·simp [h]
 ·simp [h]
noncomputable def oV:Option Int->V
 | some i=>.int i
 | none=>.non
end
theorem z8A {CX:CXT} {P:Program} {w:World} {K:u3q} {mg:Str->Option Value} {base:Heap} {N:List Str} {qual:Str} {scope:Scope} {f:Addr} {cd:Value} {A:Around} {outer:List Env} {s:Shared} {H:Hp} {E:XK}:(z1G CX P w K mg base N qual scope f cd A outer s H E).K=K:=rfl
theorem vq {X:Cx} {N:List Str} {scope:Scope} {cl:List (Str×Addr)} {s:Shared} {H:Hp} {fp:List Addr}:(xL X N scope cl s H fp).K=X.K:=rfl
section
variable {D:Ends} {σ:St} {H:Hp} {Q:VK}
noncomputable def y5M (J:It) (g:TG) (tb:TS) (D:Ends) (σ:St) (H:Hp):Prop:=∃W:Nat->Nat->St->Hp->Prop,(∃m,W 0 m σ H)/\∀i m σ H,W i m σ H->
 (J.stop i H/\D.nx σ H)∨(J.go i H/\∃N:St->Hp->Prop,(∀σ' H',N σ' H'->∃m',m'<m/\W (i+1) m' σ' H')/\∀x H',J.yld i H x H'->g x σ H' fun σ2 H2=>tb { D with nx:=N,ct:=N,bk:=D.nx } σ2 H2)
theorem z2W {wi:TI} {g:TG} {tb:TS}:y7L wi g tb D σ H=wi σ H fun J H1=>y5M J g tb D σ H1:=rfl
theorem wa {lo:Int} {n:Nat} {g:TG} {tb:TS} (Pv:Nat->St->Hp->Prop) (h0:Pv 0 σ H)
  (hs:∀i σ H,i<n->Pv i σ H->g (.int (lo+i)) σ H fun σ2 H2=>tb { D with nx:=Pv (i+1),ct:=Pv (i+1),bk:=D.nx } σ2 H2) (hd:∀σ H,Pv n σ H->D.nx σ H):y5M (Itr lo n) g tb D σ H:=y0v Pv h0 hs hd
theorem yv {K:u3q} {a:Addr} {xs:List V} {g:TG} {tb:TS} (Pv:Nat->St->Hp->Prop) (h0:Pv 0 σ H) (hl:∀i σ H,i<=xs.length->Pv i σ H->SqL K H a xs)
  (hs:∀i x σ H,xs[i]?=some x->Pv i σ H->g x σ H fun σ2 H2=>tb { D with nx:=Pv (i+1),ct:=Pv (i+1),bk:=D.nx } σ2 H2) (hd:∀σ H,Pv xs.length σ H->D.nx σ H):y5M (Itl K a) g tb D σ H:=y3A Pv h0 hl hs hd
theorem y3B {K:u3q} {a:Addr} {xs:List V} {g:TG} {tb:TS} (Pv:Nat->St->Hp->Prop) (h0:Pv 0 σ H) (hl:∀i σ H,i<=xs.length->Pv i σ H->SqT K H a xs)
  (hs:∀i x σ H,xs[i]?=some x->Pv i σ H->g x σ H fun σ2 H2=>tb { D with nx:=Pv (i+1),ct:=Pv (i+1),bk:=D.nx } σ2 H2) (hd:∀σ H,Pv xs.length σ H->D.nx σ H):y5M (Itt K a) g tb D σ H:=y4r Pv h0 hl hs hd
theorem vi {ta:TA} {R:It->Hp->Prop}:y6N ta σ H R=ta σ H fun vs H1=>∃j:Int,vs=[.int j]/\-(2^62)<=j/\j<2^62/\R (Itr 0 j.toNat) H1:=rfl
theorem vh {ta:TA} {R:It->Hp->Prop}:y6v ta σ H R=ta σ H fun vs H1=>∃i j:Int,vs=[.int i,.int j]/\(-(2^62)<=i/\i<2^62/\-(2^62)<=j/\j<2^62)/\R (Itr i (j-i).toNat) H1:=rfl
theorem vk {K:u3q} {tl:TE} {R:It->Hp->Prop}:y6O K tl σ H R=tl σ H fun x H1=>∃a,x=.ref a/\(∃xs,SqL K H1 a xs)/\R (Itl K a) H1:=rfl
theorem z3R {K:u3q} {tl:TE} {R:It->Hp->Prop}:y7V K tl σ H R=tl σ H fun x H1=>∃a,x=.ref a/\(∃xs,SqT K H1 a xs)/\R (Itt K a) H1:=rfl
noncomputable def z1M (J:It) (g:TG) (tt:TT) (te:TE) (own:List Str) (fr:List Nat) (σ:St) (H1:Hp) (Q:VK):Prop:=∀D,H1 D=none->∃W:Nat->Nat->St->Hp->Prop,(∃m,W 0 m (st0 own fr σ) (upd H1 D (.lst [])))/\∀i m σc H,W i m σc H->
 (J.stop i H/\Q (.ref D) H)∨(J.go i H/\∃N:St->Hp->Prop,(∀σ' H',N σ' H'->∃m',m'<m/\W (i+1) m' σ' H')/\∀x H',J.yld i H x H'->g x σc H' fun σ2 H2=>tt σ2 H2 fun b H3=>
  if b=true then te σ2 H3 fun y H4=>∃ys,H4 D=some (.lst ys)/\ys.length<u4L/\N σ2 (upd H4 D (.lst (ys++[y]))) else N σ2 H3)
theorem v4 {wi:TI} {g:TG} {tt:TT} {te:TE} {own:List Str} {fr:List Nat}:y1k wi g tt te own fr σ H Q=wi σ H fun J H1=>z1M J g tt te own fr σ H1 Q:=rfl
noncomputable def we (Sv:St->Prop) (Pv:Addr->Nat->List V->Hp->Prop) (D:Addr) (i:Nat) (σ:St) (H:Hp):Prop:=Sv σ/\∃ys,H D=some (.lst ys)/\ys.length<=i/\Pv D i ys H
noncomputable def CompP (Sv:St->Prop) (Pv:Addr->Nat->List V->Hp->Prop) (D:Addr) (i:Nat) (σ2:St) (y:V) (H4:Hp):Prop:=∃ys,H4 D=some (.lst ys)/\ys.length<u4L/\we Sv Pv D (i+1) σ2 (upd H4 D (.lst (ys++[y])))
theorem CompP.mk {Sv:St->Prop} {Pv:Addr->Nat->List V->Hp->Prop} {D:Addr} {i:Nat} {σ2:St} {y:V} {H4:Hp} {ys:List V} (h:H4 D=some (.lst ys)) (hl:ys.length<=i) (hi:i<u4L) (hS:Sv σ2) (hP:Pv D (i+1) (ys++[y]) (upd H4 D (.lst (ys++[y])))) :
  CompP Sv Pv D i σ2 y H4:=⟨ys,h,Nat.lt_of_le_of_lt hl hi,hS,_,zH,by simp;omega,hP⟩
theorem yR {K:u3q} {a:Addr} {xs:List V} {g:TG} {tt:TT} {te:TE} {own:List Str} {fr:List Nat} (Sv:St->Prop) (Pv:Addr->Nat->List V->Hp->Prop) (hS:Sv (st0 own fr σ))
  (h0:∀D,H D=none->Pv D 0 [] (upd H D (.lst []))) (hl:∀D i ys H',H' D=some (.lst ys)->Pv D i ys H'->SqL K H' a xs)
  (hs:∀D i x ys σ H',xs[i]?=some x->i<xs.length->Sv σ->H' D=some (.lst ys)->ys.length<=i->Pv D i ys H'->g x σ H' fun σ2 H2=>tt σ2 H2 fun b H3=>if b=true then te σ2 H3 fun y H4=>CompP Sv Pv D i σ2 y H4 else we Sv Pv D (i+1) σ2 H3)
  (hd:∀D ys H',H' D=some (.lst ys)->Pv D xs.length ys H'->Q (.ref D) H'):z1M (Itl K a) g tt te own fr σ H Q:=by
 intro D hD;refine⟨fun i m σ H=>m=xs.length-i/\i<=xs.length/\we Sv Pv D i σ H,⟨_,rfl,u4q _,hS,[],zH,u3y _,h0 D hD⟩,?_⟩;rintro i m σ1 H1 ⟨rfl,hi,hs1,ys,hy,hy2,p⟩;have q:=hl D i ys H1 hy p;by_cases hlt:i<xs.length
 ·refine .inr ⟨⟨xs,xs[i],q,by simp [hlt]⟩,we Sv Pv D (i+1),fun σ' H' p'=>⟨xs.length-(i+1),by omega,rfl,hlt,p'⟩,fun x H' y=>?_⟩;obtain⟨e,y⟩:=y;subst e;exact hs D i x ys σ1 _ (y xs q) hlt hs1 hy hy2 p
 ·have e:i=xs.length:=by omega
  subst e;exact .inl ⟨⟨xs,q,u3y _⟩,hd D ys H1 hy p⟩
theorem z6d {lo:Int} {n:Nat} {g:TG} {tt:TT} {te:TE} {own:List Str} {fr:List Nat} (Sv:St->Prop) (Pv:Addr->Nat->List V->Hp->Prop) (hS:Sv (st0 own fr σ))
  (h0:∀D,H D=none->Pv D 0 [] (upd H D (.lst [])))
  (hs:∀D i ys σ H',i<n->Sv σ->H' D=some (.lst ys)->ys.length<=i->Pv D i ys H'->g (.int (lo+i)) σ H' fun σ2 H2=>tt σ2 H2 fun b H3=>if b=true then te σ2 H3 fun y H4=>CompP Sv Pv D i σ2 y H4 else we Sv Pv D (i+1) σ2 H3)
  (hd:∀D ys H',H' D=some (.lst ys)->Pv D n ys H'->Q (.ref D) H'):z1M (Itr lo n) g tt te own fr σ H Q:=by
 intro D hD;refine⟨fun i m σ H=>m=n-i/\i<=n/\we Sv Pv D i σ H,⟨_,rfl,u4q _,hS,[],zH,u3y _,h0 D hD⟩,?_⟩;rintro i m σ1 H1 ⟨rfl,hi,hs1,ys,hy,hy2,p⟩;by_cases hlt:i<n
 ·refine .inr ⟨hlt,we Sv Pv D (i+1),fun σ' H' p'=>⟨n-(i+1),by omega,rfl,hlt,p'⟩,fun x H' y=>?_⟩;obtain⟨e,y⟩:=y;subst e y;exact hs D i ys σ1 _ hlt hs1 hy hy2 p
 ·have e:i=n:=by omega
  subst e;exact .inl ⟨u3y _,hd D ys H1 hy p⟩
noncomputable abbrev IL (zs:List Int):HO:=.lst (zs.map V.int)
theorem zc {K:u3q} {p:Addr} {xs:List V} {i:Int} {v:V} (h:SqL K H p xs) (e:atI xs i=some v) (q:Q v H):y3Y K (.ref p) (.int i) H Q:=⟨p,xs,i,v,rfl,rfl,h,e,q⟩
theorem z8G {zs:List Int} {i:Int} (h0:0<=i) (h1:i<zs.length):atI (zs.map V.int) i=some (.int (zs.getD i.toNat 0)):=by
 have hk:i.toNat<zs.length:=by omega
 have ek:i=((i.toNat:Nat):Int):=by omega
 have q:atI (zs.map V.int) ((i.toNat:Nat):Int)=some (.int (zs.getD i.toNat 0)):=ze (by rw[u4T,u4A hk,u4M,u4A hk];rfl);rw[←ek] at q;exact q
theorem Same.write {H H':Hp} (g:Same H H') {p:Addr} (n:H p=none) (o:HO):Same H (upd H' p o):=fun b u e=>by rw[zb (zW e n)];exact g b u e
theorem vo {t:TG} {u:TGs} {v:V} {r:List V} {R:St->Hp->Prop}:z5Q t u (v::r) σ H R=t v σ H fun σ' H'=>u r σ' H' R:=propext ⟨fun⟨a,b,e,q⟩=>by cases e;exact q,fun q=>⟨v,r,rfl,q⟩⟩
theorem z3k {R:St->Hp->Prop}:y6Z [] σ H R=R σ H:=propext ⟨fun⟨_,q⟩=>q,fun q=>⟨rfl,q⟩⟩
theorem y1n {t:TE} {R:Bool->Hp->Prop}:tB t σ H R=t σ H fun x H1=>∃c,x=.bl c/\R c H1:=rfl
theorem zJ {H:Hp} {p:Addr} (h:H p=none) (o:HO):Same H (upd H p o):=fun b u q=>by rw[zb (zW q h)];exact q
end
noncomputable def Itv (K:u3q) (a:Addr) (n:Nat):It:=
 ⟨fun i H=>i<n/\∃xs,SqL K H a xs/\xs.length=n,fun i H x H'=>H'=H/\∀xs,SqL K H a xs->xs[n-1-i]?=some x,fun i _=>i=n⟩
theorem y1h {P:Program} {w:World} {K:u3q} {tg:Expr} (a it:Addr) (n:Nat):Turn P w K tg (Itv K a n) [it] it (fun i h=>h.IsRevIter it a ((n:Int)-1-(i:Int))) where
 mem:=by simp
 obj:=fun i h st b hb=>by
  have e:b=it:=by simpa using hb
  subst e;obtain⟨o,e,c,d⟩:=st;exact⟨o,e,fun v z=>by rw[d] at z;cases z⟩
 keep:=fun i h h' st k=>st.at fun o e=>k it (by simp) o e
 item:=by
  intro X hP hw hK hc i pins s σ H E I hf st hg;subst hP hw hK;obtain⟨hi,xs,hq,hn⟩:=hg;obtain⟨its,rv,p,hz⟩:=I.list hq;have hx:xs[n-1-i]?=some (xs[n-1-i]'(by omega)):=u4A (by omega);obtain⟨u,hu,ru⟩:=rv.get hx;obtain⟨f0,f1,f2,f3,f4,f5⟩:=hf it (by simp);have e1:(n:Int)-1-(i:Int)=((n-1-i:Nat):Int):=by omega
  rw[e1] at st;refine wpAny_pyNext_rev_item st p.isList (x:=u) (by simpa using hu) fun h' st' sb=>?_;have e2:((n-1-i:Nat):Int)-1=(n:Int)-1-((i+1:Nat):Int):=by omega
  rw[e2] at st';have I1:Inv X pins σ H { s with heap:=h' }:=I.turned (t':=s.toks) (fun b o hb e=>(sb.2 b hb).trans e) f0 f1 f3 f4 f5;obtain⟨o,e,c,d⟩:=id st';exact⟨u,rfl,y0s (s:={ s with heap:=h' }) e c d (by decide) ⟨_,H,I1,ru,⟨rfl,fun ys hy=>by rw[I.list_inj hy hq];exact hx⟩,st',fun b hb=>(hf b hb).1⟩⟩
 done:=by
  intro X hP hw hK hc i pins s σ H E I hf st hg;subst hP hw hK;obtain⟨f0,f1,f2,f3,f4,f5⟩:=hf it (by simp);have e1:(n:Int)-1-(i:Int) = -1:=by have:i=n:=hg;omega
  rw[e1] at st;exact wpAny_pyNext_rev_end (I.ok.hd hc) st fun h' eb=>⟨rfl,I.turned (t':=s.toks) (fun b o hb e=>eb b o hb e) f0 f1 f3 f4 f5⟩
 self:=fun _ _ _ _ _ st h=>wpAny_pyIter_revIter st h
noncomputable def y7X (K:u3q) (ta:TE):TI:=fun σ H R=>ta σ H fun x H1=>∃a xs,x=.ref a/\SqL K H1 a xs/\R (Itv K a xs.length) H1
section
variable {X:Cx} {tg:Expr}
theorem y5v {l:Expr} {tl:TE} {p pos:Pos} (hg:Gl X "reversed") (hm:X.mg "reversed" = none) (hl:PE X l tl) (hs:u4W [l] X.env=[(false,eval l X.env)]:=by rfl):PI X tg (.Call (.Name "reversed" p) [l] [] pos) (y7X X.K tl):=by
 intro pins s σ H R I h;refine Call_ (ki I hg hm PyProof.Rows.boot_reversed (u5Z ?_ hs rfl));refine thn ((zB hl zE hs) pos pins s σ H (fun vs H1=>∃(a:Addr) (xs:List V),vs=[V.ref a]/\SqL X.K H1 a xs/\R (Itv X.K a xs.length) H1) I ?_) fun us s1 ⟨vs,H1,I1,r,a,xs,e,hq,q⟩=>?_
 ·have e:(fun (x:V) (H1:Hp)=>∃(a:Addr) (xs:List V),[x]=[V.ref a]/\SqL X.K H1 a xs/\R (Itv X.K a xs.length) H1)=fun x H1=>∃(a:Addr) (xs:List V),x=.ref a/\SqL X.K H1 a xs/\R (Itv X.K a xs.length) H1:=by
   funext x H1;simp only [List.cons.injEq,and_true]
  show tl σ H fun x H1=>∃(a:Addr) (xs:List V),[x]=[V.ref a]/\SqL X.K H1 a xs/\R (Itv X.K a xs.length) H1;rw[e];exact h
 subst e;obtain⟨u,rfl,r1⟩:=Vals.one r;cases r1;obtain⟨its,rv,pl,hz⟩:=I1.list hq;refine call_reversed_list pl.isList ?_;have I2:Inv X pins σ H1 { s1 with heap:=s1.heap.push (revObj a ((its.toArray.size:Int)-1)) }:=I1.kept (t':=s1.toks) fun b o e=>u3v _ e;have hl2:=rv.length;have st:(s1.heap.push (revObj a ((its.toArray.size:Int)-1))).IsRevIter s1.heap.objs.size a ((xs.length:Int)-1-((0:Nat):Int)):=⟨_,u4C _ rfl,rfl,by
  show Data.fields #[.ref a,rawInt ((its.toArray.size:Int)-1)]=_;rw[u4I,←hl2];simp⟩
 refine wpAny_pyIter_revIter (s:={ s1 with heap:=s1.heap.push (revObj a ((its.toArray.size:Int)-1)) }) st ?_;refine⟨s1.heap.objs.size,[s1.heap.objs.size],_,_,H1,rfl,I2,y1h a _ xs.length,st,fun b hb=>?_,q⟩;have e:b=s1.heap.objs.size:=by simpa using hb
 subst e;exact I1.fpOk (u3y _) (I1.hok.fresh (u3y _))
end
theorem y3C {K:u3q} {a:Addr} {xs:List V} {g:TG} {tb:TS} {D:Ends} {σ:St} {H:Hp} (Pv:Nat->St->Hp->Prop) (h0:Pv 0 σ H) (hl:∀i σ H,i<=xs.length->Pv i σ H->SqL K H a xs)
  (hs:∀i x σ H,i<xs.length->xs[xs.length-1-i]?=some x->Pv i σ H->g x σ H fun σ2 H2=>tb { D with nx:=Pv (i+1),ct:=Pv (i+1),bk:=D.nx } σ2 H2) (hd:∀σ H,Pv xs.length σ H->D.nx σ H):y5M (Itv K a xs.length) g tb D σ H:=by
 refine⟨fun i m σ H=>m=xs.length-i/\i<=xs.length/\Pv i σ H,⟨xs.length,by simp,u4q _,h0⟩,?_⟩;rintro i m σ H ⟨rfl,hi,p⟩;have q:=hl i σ H hi p;by_cases hlt:i<xs.length
 ·refine .inr ⟨⟨hlt,xs,q,rfl⟩,Pv (i+1),fun σ' H' p'=>⟨xs.length-(i+1),by omega,rfl,hlt,p'⟩,fun x H' y=>?_⟩;obtain⟨e,y⟩:=y;subst e;exact hs i x σ _ hlt (y xs q) p
 ·have e:i=xs.length:=by omega
  subst e;exact .inl ⟨rfl,hd σ H p⟩
theorem z3T {K:u3q} {tl:TE} {σ:St} {H:Hp} {R:It->Hp->Prop}:y7X K tl σ H R=tl σ H fun x H1=>∃a xs,x=.ref a/\SqL K H1 a xs/\R (Itv K a xs.length) H1:=rfl
noncomputable def y7i (t:TS):TS:=fun D σ H=>∃M:St->Hp->Prop,t { D with nx:=M } σ H/\∀σ' H',M σ' H'->D.nx σ' H'
theorem yP {X:Cx} {st:Stmt} {t:TS} (h:PS X st t):PS X st (y7i t):=by
 intro pins s σ H D I hw;obtain⟨M,h1,h2⟩:=hw;refine thn (h pins s σ H _ I h1) fun f s1 q=>?_;cases f with
 | next=>obtain⟨σ',H',I',q⟩:=q;exact⟨σ',H',I',h2 σ' H' q⟩
 | ret v=>exact q
 | brk=>exact q
 | cont=>exact q
section
variable {X:Cx}
end
theorem z7m {K:u3q} {H:Hp} {Q:VK} {d:Int}:y5q K [.int d,.ty "int"] H Q=Q (.bl true) H:=propext ⟨fun⟨x,T,t,b,e,ty,k,q⟩=>by
  cases e;cases ty;have:PySem.W.kitOne K (.type "int") (.type "int")=some true:=rfl;rw[this] at k;cases k;exact q,fun q=>⟨_,_,_,true,rfl,.int d,rfl,q⟩⟩
theorem z7n {K:u3q} {H:Hp} {Q:VK} {d:Int}:y5q K [.int d,.ty "bool"] H Q=Q (.bl false) H:=propext ⟨fun⟨x,T,t,b,e,ty,k,q⟩=>by
  cases e;cases ty;have:PySem.W.kitOne K (.type "int") (.type "bool")=some false:=rfl;rw[this] at k;cases k;exact q,fun q=>⟨_,_,_,false,rfl,.int d,rfl,q⟩⟩
theorem z7l {K:u3q} {H:Hp} {Q:VK}:y5q K [.non,.ty "int"] H Q=Q (.bl false) H:=propext ⟨fun⟨x,T,t,b,e,ty,k,q⟩=>by
  cases e;cases ty;have:PySem.W.kitOne K (.type "NoneType") (.type "int")=some false:=rfl;rw[this] at k;cases k;exact q,fun q=>⟨_,_,_,false,rfl,.non,rfl,q⟩⟩
theorem z7o {K:u3q} {H:Hp} {Q:VK} {d:Bool}:y5q K [.bl d,.ty "bool"] H Q=Q (.bl true) H:=propext ⟨fun⟨x,T,t,b,e,ty,k,q⟩=>by
  cases e;cases ty;have:PySem.W.kitOne K (.type "bool") (.type "bool")=some true:=rfl;rw[this] at k;cases k;exact q,fun q=>⟨_,_,_,true,rfl,.bl d,rfl,q⟩⟩
noncomputable def y5A (ns:List Int) (lo hi:Option Int):List Int:=(ns.drop (HT.sIx ns.length 0 lo)).take (HT.sIx ns.length ns.length hi-HT.sIx ns.length 0 lo)
theorem y3M (ns:List Int) (lo hi:Option Int):z9K (ns.map V.int) lo hi=(y5A ns lo hi).map V.int:=by
 unfold z9K y5A;rw[u3z,List.map_take,List.map_drop]
section
variable {prog:Program} {w:World} {A:Around} {E:Value->Shared->Prop} {s:Shared}
end
noncomputable def y1j (K:u3q) (tl:TE):TE:=fun σ H Q=>tl σ H fun x H1=>∃a xs,x=.ref a/\SqL K H1 a xs/\∀d,H1 d=none->Q (.ref d) (upd H1 d (.lst xs.reverse))
section
variable {X:Cx}
end
theorem jF {K:u3q} {tl:TE} {σ:St} {H:Hp} {Q:VK}:y1j K tl σ H Q=tl σ H fun x H1=>∃a xs,x=.ref a/\SqL K H1 a xs/\∀d,H1 d=none->Q (.ref d) (upd H1 d (.lst xs.reverse)):=rfl
mutual
inductive DD (K:u3q) (H:Hp):V->PyData->Prop where
 | non:DD K H .non .none
 | bl (b:Bool):DD K H (.bl b) (.bool b)
 | int (i:Int):DD K H (.int i) (.int i)
 | str (x:Str):DD K H (.str x) (.str x)
 | lst {a:Addr} {xs:List V} {ds:List PyData}:SqL K H a xs->DDs K H xs ds->DD K H (.ref a) (.list ds)
 | tup {a:Addr} {xs:List V} {ds:List PyData}:SqT K H a xs->DDs K H xs ds->DD K H (.ref a) (.tuple ds)
inductive DDs (K:u3q) (H:Hp):List V->List PyData->Prop where
 | nil:DDs K H [] []
 | cons {x:V} {xs:List V} {d:PyData} {ds:List PyData}:DD K H x d->DDs K H xs ds->DDs K H (x::xs) (d::ds)
end
section
variable {X:Cx} {pins:List (Addr×Obj)} {σ:St} {H:Hp} {s:Shared}
mutual
theorem DD.reads (I:Inv X pins σ H s):∀ {v:V} {d:PyData} {u:Value},DD X.K H v d->RelV v u->∃as,Reads s.heap u d as
 | _,_,_,.non,r=>by cases r;exact⟨_,.none⟩
 | _,_,_,.bl b,r=>by cases r;exact⟨_,.bool b⟩
 | _,_,_,.int i,r=>by obtain⟨t,rfl⟩:=r;exact⟨_,.int i t⟩
 | _,_,_,.str x,r=>by obtain⟨t,rfl⟩:=r;exact⟨_,.str x t⟩
 | _,_,_,.lst h hs,r=>by
  cases r;obtain⟨its,rv,p,_⟩:=I.list h;obtain⟨as,ra⟩:=DDs.reads I hs rv;obtain⟨o,ho,hc,n,hd⟩:=p.isList;exact⟨_,.list ho hc hd ra⟩
 | _,_,_,.tup h hs,r=>by
  cases r;obtain⟨its,rv,p,_⟩:=I.tuple h;obtain⟨as,ra⟩:=DDs.reads I hs rv;obtain⟨o,ho,hc,n,hd⟩:=p;exact⟨_,.tuple ho hc hd ra⟩
theorem DDs.reads (I:Inv X pins σ H s):∀ {vs:List V} {ds:List PyData} {us:List Value},DDs X.K H vs ds->Vals vs us->∃as,ReadsAll s.heap us ds as
 | _,_,_,.nil,.nil=>⟨_,.nil⟩
 | _,_,_,.cons h hs,.cons r rs=>by
  obtain⟨as,ra⟩:=DD.reads I h r;obtain⟨bs,rb⟩:=DDs.reads I hs rs;exact⟨_,.cons ra rb⟩
end
end
theorem Same.seqT {K:u3q} {H H':Hp} {a:Addr} {xs:List V} (e:Same H H') (h:SqT K H a xs):SqT K H' a xs:=by
 rcases h with (h|⟨o,h⟩)|h
 ·exact .inl (.inl (e _ _ h))
 ·exact .inl (.inr ⟨o,e _ _ h⟩)
 ·exact .inr h
mutual
theorem DD.mono {K:u3q} {H H':Hp} (g:Same H H'):∀ {v:V} {d:PyData},DD K H v d->DD K H' v d
 | _,_,.non=>.non
 | _,_,.bl b=>.bl b
 | _,_,.int i=>.int i
 | _,_,.str x=>.str x
 | _,_,.lst h hs=>.lst (g.seq h) (DDs.mono g hs)
 | _,_,.tup h hs=>.tup (Same.seqT g h) (DDs.mono g hs)
theorem DDs.mono {K:u3q} {H H':Hp} (g:Same H H'):∀ {vs:List V} {ds:List PyData},DDs K H vs ds->DDs K H' vs ds
 | _,_,.nil=>.nil
 | _,_,.cons h hs=>.cons (DD.mono g h) (DDs.mono g hs)
end
noncomputable def y6m (K:u3q):R2:=fun x y H Q=>∃d e:PyData,DD K H x d/\DD K H y e/\SeqAt.shaped d=true/\SeqAt.shaped e=true/\Q (.bl (PyData.eqv d e)) H
section
variable {X:Cx}
theorem z7c (hu:X.A.units+64<cLine):OpR X (u6Q .Eq) (y6m X.K):=by
 intro pins s σ H x y v u Q I rx ry h;obtain⟨d,e,hd,he,sd,se,q⟩:=h;obtain⟨as,ra⟩:=hd.reads I rx;obtain⟨bs,rb⟩:=he.reads I ry;exact eq_dataH ra rb sd se hu ⟨.bl _,H,I,rfl,q⟩
noncomputable def y6n (K:u3q):R2:=fun x y H Q=>∃l b xs zs,x=.ref l/\y=.ref b/\SqL K H l xs/\SqL K H b zs/\xs.length+zs.length<=u4L/\∀p,H p=none->Q (.ref p) (upd H p (.lst (xs++zs)))
theorem y4a:OpR X (binaryOp .Add) (y6n X.K):=by
 intro pins s σ H x y v u Q I rx ry h;obtain⟨l,b,xs,zs,rfl,rfl,hH,hB,hz,q⟩:=h;cases rx;cases ry;obtain⟨its,r,pa,_⟩:=I.list hH;obtain⟨its2,r2,pb,_⟩:=I.list hB;have hl:=r.length;have hl2:=r2.length;obtain⟨⟨cls,dd,data,sl⟩,ho,hc,n,hd⟩:=pa.isList;obtain⟨⟨cls2,dd2,data2,sl2⟩,ho2,hc2,n2,hd2⟩:=pb.isList;simp only at hc hd hc2 hd2;subst hc hd hc2 hd2;have e:its.toArray++its2.toArray=(its++its2).toArray:=by simp
 refine concat_meets ⟨_,ho,rfl⟩ ⟨_,ho2,rfl⟩ noFill_list_add seq_list_add PySem.F.slot_list_add PySem.F.entry_list_add (PySem.F.args_list_add_2 _ _) (list_addW l b its.toArray its2.toArray n n2 dd dd2 sl sl2 (by simp only [u4I];omega)) ⟨ho,ho2,?_⟩;rw[e];exact⟨.ref _,_,I.lnew (t':=s.toks) (r.append r2) (by rw[u3s];omega),rfl,q _ I.fresh⟩
end
theorem y0Q (a v:Value):argsOk "min" ⟨[a],[(u3t "default",v)]⟩:=by unfold argsOk;kernel_rfl
section
variable {prog:Program} {w:World} {B:Around} {it:Addr} {fp wr:List Addr} {GG:Array GenState->Array GenState->Prop} {n:Nat} {PV:Nat->Value->Prop} {SV:Nat->Shared->Prop} {RR:Result->Shared->Prop}
theorem y0O {dv:Value} (WS:WalksS prog w B.in1 it fp wr GG n PV SV) (bt:Nat->Nat->Bool) (hcm:CmpOf prog w B.in1 .Lt PV bt) (Z:Addr) (hZ:Z∉fp) :
  ∀(k j:Nat) (s:Shared) (top:Value) (c:Nat),n-(j+1)=k->j+1<=n->SV (j+1) s->PV (argBest bt j) top->
  s.heap.get? Z=some { cls:=.type "list",dict:=none,data:=.seq #[top,top] c,slots:=#[] }->
  (∀v s',PV (argBest bt (n-1)) v->Moved (Z::wr) GG s s'->RR (.ok (.ret v)) s')->codeAny (model prog w) B (.builtin "min.loop" ⟨[.ref it,.none,.ref Z],[(u3t "default",dv)]⟩) RR s:=by
 have zw:Z∉wr:=fun z=>hZ (WS.sub _ z);have sub:∀b∈wr,b∈Z::wr:=fun b z=>u4Z _ z;have nm:(toString "min" ++ toString ".loop" : String) = "min.loop" :=by decide
 have nz:∀ {b:Addr},b∉Z::wr->Z≠b:=fun z e=>z (by rw[e];exact u6L);intro k
 induction k with
 | zero=>
  intro j s top c hk hj sv pt hz fin;have jn:j+1=n:=by omega
  refine u5u PySem.F.entry_min_loop ?_;rw[u5f u5i _];show wpAny (model prog w) B.in1 (seqItems? (.ref Z) >>= _) _ _ s;refine u3r (u5b hz rfl ?_);show wpAny (model prog w) B.in1 (tryCatch (pyNext (.ref it)) _ >>= _) _ _ s;refine u3r (wpAny_tryCatch (WS.done s _ _ (jn▸sv) fun s' mv=>?_));have hz':=mv.heap Z _ zw hz;show wpAny (model prog w) B.in1 (updateSeq Z (fun _=>#[]) >>= _) _ _ _;refine u3r ?_;refine wpAny_updateSeq hz' rfl (u3r (wpAny_letGo (u3u ?_)));refine fin top _ (by rw[←jn];exact pt) ?_;exact (mv.mono sub).then_heap (tk:=s'.toks) (u3y _) fun b o z e=>(u5B _ _ (nz z)).trans e
 | succ k ih=>
  intro j s top c hk hj sv pt hz fin;have jn:j+1<n:=by omega
  refine u5u PySem.F.entry_min_loop ?_;rw[u5f u5i _];show wpAny (model prog w) B.in1 (seqItems? (.ref Z) >>= _) _ _ s;refine u3r (u5b hz rfl ?_);show wpAny (model prog w) B.in1 (tryCatch (pyNext (.ref it)) _ >>= _) _ _ s;refine u3r (wpAny_tryCatch (WS.item (j+1) s _ _ jn sv fun v s' pv sv' mv=>?_));have hz':=mv.heap Z _ zw hz;show wpAny (model prog w) B.in1 (tryCatch (holding [v,v] (richCompare .Lt v top >>= _)) _ >>= _) _ _ _;refine u3r (wpAny_tryCatch (wpAny_holding (u3r (hcm (j+1) (argBest bt j) v top _ _ _ pv pt ?_))));refine u3r (wpAny_holding (u6Y ?_));refine u3r (wpAny_letGo (u3u ?_));cases eb:bt (j+1) (argBest bt j) with
  | true=>
   simp only [if_true];refine u3r ?_;refine wpAny_updateSeq hz' rfl (u3r (wpAny_letGo ?_));rw[nm];refine u3u ⟨plainId_quiet u5i _,ih (j+1) _ v _ (by omega) jn ?_ (by simp only [argBest,eb,if_true];exact pv) (u4x _ hz' rfl) fun v2 s2 p2 m2=>?_⟩
   ·exact WS.frame _ s' _ s'.toks sv' (u3y _) fun b z o e=>(u5B _ _ (fun q:Z=b=>hZ (by rw[q];exact z))).trans e
   ·refine fin v2 s2 p2 (Moved.trans WS.gtrans ?_ m2);exact (mv.mono sub).then_heap (u3y _) fun b o z e=>(u5B _ _ (nz z)).trans e
  | false=>
   simp only [u5h,if_false];refine u3r (wpAny_letGo ?_);rw[nm];refine u3u ⟨plainId_quiet u5i _,ih (j+1) _ top c (by omega) jn sv' (by simp only [argBest,eb,u5h,if_false];exact pt) hz' fun v2 s2 p2 m2=>?_⟩;exact fin v2 s2 p2 (Moved.trans WS.gtrans (mv.mono sub) m2)
theorem z8e {dv:Value} (WS:WalksS prog w B.in1 it fp wr GG n PV SV) (bt:Nat->Nat->Bool) (hcm:CmpOf prog w B.in1 .Lt PV bt) (Z:Addr) (hZ:Z∉fp) {s:Shared} {c:Nat} (sv:SV 0 s)
  (hz:s.heap.get? Z=some { cls:=.type "list",dict:=none,data:=.seq #[] c,slots:=#[] })
  (none:n=0->∀s',Moved (Z::wr) GG s s'->RR (.ok (.ret dv)) s') (fin:0<n->∀v s',PV (argBest bt (n-1)) v->Moved (Z::wr) GG s s'->RR (.ok (.ret v)) s') :
  codeAny (model prog w) B (.builtin "min.loop" ⟨[.ref it,.none,.ref Z],[(u3t "default",dv)]⟩) RR s:=by
 have zw:Z∉wr:=fun z=>hZ (WS.sub _ z);have sub:∀b∈wr,b∈Z::wr:=fun b z=>u4Z _ z;have nm:(toString "min" ++ toString ".loop" : String) = "min.loop" :=by decide
 have nz:∀ {b:Addr},b∉Z::wr->Z≠b:=fun z e=>z (by rw[e];exact u6L);refine u5u PySem.F.entry_min_loop ?_;rw[u5f u5i _];show wpAny (model prog w) B.in1 (seqItems? (.ref Z) >>= _) _ _ s;refine u3r (u5b hz rfl ?_);show wpAny (model prog w) B.in1 (tryCatch (pyNext (.ref it)) _ >>= _) _ _ s;rcases Nat.eq_zero_or_pos n with z0|zp
 ·refine u3r (wpAny_tryCatch (WS.done s _ _ (by rw[z0];exact sv) fun s' mv=>?_));refine u3r (wpAny_rule ?_);exact u3u (none z0 s' (mv.mono sub))
 ·refine u3r (wpAny_tryCatch (WS.item 0 s _ _ zp sv fun v s' pv sv' mv=>?_));have hz':=mv.heap Z _ zw hz;show wpAny (model prog w) B.in1 (updateSeq Z (fun _=>#[v,v]) >>= _) _ _ _;refine u3r ?_;refine wpAny_updateSeq hz' rfl ?_;rw[nm];refine u3u ⟨plainId_quiet u5i _,y0O WS bt hcm Z hZ _ 0 _ v _ rfl zp ?_ pv (u4x _ hz' rfl) fun v2 s2 p2 m2=>?_⟩
  ·exact WS.frame _ s' _ s'.toks sv' (u3y _) fun b z o e=>(u5B _ _ (fun q:Z=b=>hZ (by rw[q];exact z))).trans e
  ·refine fin zp v2 s2 p2 (Moved.trans WS.gtrans ?_ m2);exact (mv.mono sub).then_heap (u3y _) fun b o z e=>(u5B _ _ (nz z)).trans e
theorem y0P {s:Shared} {E:Value->Shared->Prop} {Q:Value->Shared->Prop} {l:Addr} {xs:Array (Int×Tok)} {dv:Value} (hh:B.handled=none) (hl:s.heap.IsList l (intItems xs))
  (h0:xs.size=0->∀h' tk,(∀b o,s.heap.get? b=some o->h'.get? b=some o)->Q dv { s with heap:=h',toks:=tk })
  (h1:0<xs.size->∀v h' tk,(intItems xs)[argBest (fun i j=>decide (numAt xs i<numAt xs j)) (xs.size-1)]?=some v->(∀b o,s.heap.get? b=some o->h'.get? b=some o)->Q v { s with heap:=h',toks:=tk }) :
  wpAny (model prog w) B (call (.builtin "min") [.ref l] [(u3t "default",dv)]) Q E s:=by
 have nm:(toString "min" ++ toString ".loop" : String) = "min.loop" :=by decide
 refine PyProof.Rows.kmb_tree PySem.F.kind_min PySem.F.plain_min PySem.F.entry_min (y0Q _ _) ?_;show wpAny (model prog w) B.in1 (Builtin.Builtins.bindParams "min" ["key", "default"] 0 ⟨[],[(u3t "default",dv)]⟩ >>= _) _ _ s;refine u3r (wpAny_of_eq (show Builtin.Builtins.bindParams "min" ["key", "default"] 0 ⟨[],[(u3t "default",dv)]⟩=pure [none,some dv] from rfl) ?_);refine u3r (u3u ?_);refine u3r (iter_intList hl fun s2 e st hfp ne=>?_);refine u3r (u4r ?_);have WS:=(Walks.list (prog:=prog) (w:=w) (A:=B.in1) hh s.heap.objs.size l ne (intItems xs)).toS;have hZ:s2.heap.objs.size∉[s.heap.objs.size,l]:=fun z=>u5n _ (hfp _ z);have sz:(intItems xs).size=xs.size:=by simp [intItems]
 rw[nm];subst e;have keep:∀ {s3:Shared} {s4:Shared} {wr:List Addr} {GG:Array GenState->Array GenState->Prop},Moved wr GG s3 s4->True:=fun _=>trivial;refine u3u ⟨plainId_quiet u5i _,z8e WS _ (CmpOf.ints_lt (numAt xs) fun _ _=>intItems_at) _ hZ (c:=0) (WS.frame 0 _ _ _ st (u3y _) fun b _ o e=>u3v _ e) (u4C _ rfl) (fun z s' mv=>?_) (fun z v s' pv mv=>?_)⟩
 ·rw[Moved.eq_with mv];refine h0 (by omega) s'.heap s'.toks fun b o e=>?_;have lt:=u4D e;refine mv.heap b o (fun q=>?_) (u3v _ (u3v _ e));rcases u3w.mp q with q|q
  ·subst q;exact absurd lt (by show ¬(s.heap.push _).objs.size<s.heap.objs.size;rw[Heap.size_push];exact Nat.not_lt.mpr (Nat.le_succ _))
  ·exact absurd lt (by rw[u4O.mp q];exact u5n _)
 ·rw[Moved.eq_with mv];rw[sz] at pv z;refine h1 z v s'.heap s'.toks pv fun b o e=>?_;have lt:=u4D e;refine mv.heap b o (fun q=>?_) (u3v _ (u3v _ e));rcases u3w.mp q with q|q
  ·subst q;exact absurd lt (by show ¬(s.heap.push _).objs.size<s.heap.objs.size;rw[Heap.size_push];exact Nat.not_lt.mpr (Nat.le_succ _))
  ·exact absurd lt (by rw[u4O.mp q];exact u5n _)
end
noncomputable def y5Z (K:u3q) (tl td:TE):TE:=fun σ H Q=>tl σ H fun x H1=>td σ H1 fun d H2=>∃(a:Addr) (ns:List Int),x=.ref a/\SqL K H2 a (ns.map V.int)/\(ns=[]->Q d H2)/\∀M,M∈ns->(∀z∈ns,M<=z)->Q (.int M) H2
section
variable {X:Cx}
theorem y4U {l e:Expr} {tl td:TE} {p pos kp:Pos} (hc:X.calm=true) (hg:Gl X "min") (hm:X.mg "min" = none) (hl:PE X l tl) (he:PE X e td) (hs:u4W [l] X.env=[(false,eval l X.env)]:=by rfl) :
  PE X (.Call (.Name "min" p) [l] [⟨some (u3t "default"),e,kp⟩] pos) (y5Z X.K tl td):=by
 intro pins s σ H Q I h;refine u6M (ki I hg hm (u:=.builtin "min") (by decide +kernel) ?_);refine PyProof.Rows.callWith_kw (env:=X.env) (e:=l) (rest:=[]) (kws:=[⟨some (u3t "default"),e,kp⟩]) ?_ (he:=by rw[hs];rfl) (hplain:=by rw[hs];rfl);refine thn ((zB hl zE hs) pos pins s σ H (fun vs H1=>∃x,vs=[x]/\td σ H1 fun d H2=>∃(a:Addr) (ns:List Int),x=.ref a/\SqL X.K H2 a (ns.map V.int)/\(ns=[]->Q d H2)/\∀M,M∈ns->(∀z∈ns,M<=z)->Q (.int M) H2) I ?_) fun us s1 ⟨vs,H1,I1,r,x,e1,q⟩=>?_
 ·show tl σ H fun x H1=>∃y,[x]=[y]/\_;have e:(fun (x:V) (H1:Hp)=>∃y,[x]=[y]/\td σ H1 fun d H2=>∃(a:Addr) (ns:List Int),y=.ref a/\SqL X.K H2 a (ns.map V.int)/\(ns=[]->Q d H2)/\∀M,M∈ns->(∀z∈ns,M<=z)->Q (.int M) H2) =
    fun x H1=>td σ H1 fun d H2=>∃(a:Addr) (ns:List Int),x=.ref a/\SqL X.K H2 a (ns.map V.int)/\(ns=[]->Q d H2)/\∀M,M∈ns->(∀z∈ns,M<=z)->Q (.int M) H2:=by
   funext x H1;refine propext ⟨fun⟨y,e,q⟩=>?_,fun q=>⟨x,rfl,q⟩⟩;cases e;exact q
  rw[e];exact h
 subst e1;obtain⟨u,rfl,r1⟩:=Vals.one r;refine thn ((y4O he y5u) pos pins s1 σ H1 (fun ws H2=>∃d,ws=[d]/\∃(a:Addr) (ns:List Int),x=.ref a/\SqL X.K H2 a (ns.map V.int)/\(ns=[]->Q d H2)/\∀M,M∈ns->(∀z∈ns,M<=z)->Q (.int M) H2) I1 ?_) fun ws s2 ⟨zs,H2,I2,rz,d,ed,a,ns,ea,hq,q0,q1⟩=>?_
 ·show td σ H1 fun d H2=>∃d',[d]=[d']/\_;have e:(fun (d:V) (H2:Hp)=>∃d',[d]=[d']/\∃(a:Addr) (ns:List Int),x=.ref a/\SqL X.K H2 a (ns.map V.int)/\(ns=[]->Q d' H2)/\∀M,M∈ns->(∀z∈ns,M<=z)->Q (.int M) H2) =
    fun d H2=>∃(a:Addr) (ns:List Int),x=.ref a/\SqL X.K H2 a (ns.map V.int)/\(ns=[]->Q d H2)/\∀M,M∈ns->(∀z∈ns,M<=z)->Q (.int M) H2:=by
   funext x H1;refine propext ⟨fun⟨y,e,q⟩=>?_,fun q=>⟨x,rfl,q⟩⟩;cases e;exact q
  rw[e];exact q
 subst ed ea;obtain⟨dv,rfl,rd⟩:=Vals.one rz;cases r1;obtain⟨its,rv,pl,hz⟩:=I2.list hq;have hi:IntsAre its ns:=wX rv;obtain⟨xs,ex⟩:=hi.allInts.items;have hns:ns=xs.toList.map (·.1):=by rw[←hi.numsOf,←nums_intItems,←ex]
 have hsz:xs.size=ns.length:=by rw[hns,u3z,u4P]
 have hl:=pl.isList;rw[ex] at hl;show wpAny (model X.prog X.w) X.A (call (.builtin "min") [.ref a] [(u3t "default",dv)]) _ _ _;refine y0P (I.ok.hd hc) hl (fun z h' tk k=>?_) (fun z v h' tk hv k=>?_)
 ·exact⟨d,H2,I2.kept k,rd,q0 (u5H (by omega))⟩
 ·obtain⟨t,rfl⟩:=intItems_at hv;obtain⟨b1,b2⟩:=argBest_lt (numAt xs) (xs.size-1);refine⟨.int _,H2,I2.kept k,⟨t,rfl⟩,q1 _ ?_ fun y hy=>?_⟩
  ·rw[hns,numAt_eq];exact getD_mem (by rw[u3z,u4P];omega)
  ·rw[hns] at hy;obtain⟨j,hj,rfl⟩:=mem_getD hy;rw[u3z,u4P] at hj;rw[←numAt_eq];exact b2 j (by omega)
end
theorem vT {K:u3q} {tl td:TE} {σ:St} {H:Hp} {Q:VK}:y5Z K tl td σ H Q=tl σ H fun x H1=>td σ H1 fun d H2=>∃(a:Addr) (ns:List Int),x=.ref a/\SqL K H2 a (ns.map V.int)/\(ns=[]->Q d H2)/\∀M,M∈ns->(∀z∈ns,M<=z)->Q (.int M) H2:=rfl
section
variable {prog:Program} {w:World} {B:Around} {it:Addr} {fp wr:List Addr} {GG:Array GenState->Array GenState->Prop} {n:Nat} {PV:Nat->Value->Prop} {SV:Nat->Shared->Prop} {RR:Result->Shared->Prop}
end
noncomputable def y6i (K:u3q) (tl td:TE):TE:=fun σ H Q=>tl σ H fun x H1=>td σ H1 fun d H2=>∃(a:Addr) (ns:List Int),x=.ref a/\SqL K H2 a (ns.map V.int)/\(ns=[]->Q d H2)/\∀M,M∈ns->(∀z∈ns,z<=M)->Q (.int M) H2
section
variable {X:Cx}
end
theorem vV {K:u3q} {tl td:TE} {σ:St} {H:Hp} {Q:VK}:y6i K tl td σ H Q=tl σ H fun x H1=>td σ H1 fun d H2=>∃(a:Addr) (ns:List Int),x=.ref a/\SqL K H2 a (ns.map V.int)/\(ns=[]->Q d H2)/\∀M,M∈ns->(∀z∈ns,z<=M)->Q (.int M) H2:=rfl
noncomputable def CapOk (X:Cx) (scope:Scope):List Str->List Nat->List (Str×Addr)->Prop
 | [],[],[]=>True
 | y::ys,j::js,(n,a)::r=>n=y/\X.N[j]?=some y/\X.env.scope.names.lookup y=some .cell/\X.env.cells.lookup y=some a/\scope.names.lookup y=some .free/\CapOk X scope ys js r
 | _,_,_=>False
theorem CapOk.inn {X:Cx} {scope:Scope}:∀ {ys:List Str} {js:List Nat} {cl:List (Str×Addr)},CapOk X scope ys js cl->∀y c,cl.lookup y=some c->X.env.cells.lookup y=some c
 | [],[],[],_,y,c,e=>nomatch e
 | y::ys,j::js,(n,a)::r,⟨hn,_,_,h,_,t⟩,z,c,e=>by
  subst hn;rw[u5O] at e;cases q:z == n with
  | true=>
   rw[q] at e;have:z=n:=by simpa using q
   subst this;exact h.trans e
  | false=>
   rw[q] at e;exact CapOk.inn t z c e
theorem CapOk.mem {X:Cx} {scope:Scope}:∀ {ys:List Str} {js:List Nat} {cl:List (Str×Addr)},CapOk X scope ys js cl->∀y∈ys,∃c,cl.lookup y=some c
 | [],[],[],_,y,h=>nomatch h
 | y::ys,j::js,(n,a)::r,⟨hn,_,_,_,_,t⟩,z,e=>by
  subst hn;rw[u5O];cases q:z == n with
  | true=>exact⟨_,rfl⟩
  | false=>
   rcases u3w.mp e with e|e
   ·subst e;simp at q
   ·exact CapOk.mem t z e
theorem CapOk.len {X:Cx} {scope:Scope}:∀ {ys:List Str} {js:List Nat} {cl:List (Str×Addr)},CapOk X scope ys js cl->ys.length=js.length
 | [],[],[],_=>rfl
 | _::_,_::_,(_,_)::_,⟨_,_,_,_,_,t⟩=>congrArg (· + 1) (CapOk.len t)
theorem CapOk.at {X:Cx} {scope:Scope}:∀ {ys:List Str} {js:List Nat} {cl:List (Str×Addr)},CapOk X scope ys js cl->∀(k:Nat) (y:Str),ys[k]?=some y->
  ∃j,js[k]?=some j/\X.N[j]?=some y/\X.env.scope.names.lookup y=some .cell/\scope.names.lookup y=some .free
 | [],[],[],_,k,y,e=>by simp at e
 | y::ys,j::js,(n,a)::r,⟨hn,h1,h2,_,h3,t⟩,k,z,e=>by
  subst hn;cases k with
  | zero=>cases e;exact⟨j,rfl,h1,h2,h3⟩
  | succ k=>exact CapOk.at t k z e
theorem xX {α:Type}:∀ {l:List (Str×α)} {y:Str} {k:α},l.lookup y=some k->(y,k)∈l
  | [],_,_,e=>nomatch e
  | (n,q)::r,y,k,e=>by
    rw[u5O] at e;cases hy:y == n with
    | true=>
      rw[hy] at e;have:y=n:=by simpa using hy
      subst this;cases e;exact .head _
    | false=>
      rw[hy] at e;exact .tail _ (xX e)
theorem vA {env:Env}:∀ {names:List (Str×NameKind)} {x:Str},names.lookup x=some .free->
    (names.map fun (n,k)=>if (k == NameKind.free && env.scope.kind == .function && env.kindOf n == some .cell) then (n,NameKind.cell) else (n,k)).lookup x=some .cell∨
    (names.map fun (n,k)=>if (k == NameKind.free && env.scope.kind == .function && env.kindOf n == some .cell) then (n,NameKind.cell) else (n,k)).lookup x=some .free
  | [],_,h=>nomatch h
  | (n,k)::r,x,h=>by
    rw[u5O] at h;rw[u4j];cases hy:x == n with
    | true=>
      rw[hy] at h;cases h;dsimp only;split
      · left;rw[u5O,hy]
      · right;rw[u5O,hy]
    | false=>
      rw[hy] at h;have ih:=vA (env:=env) h;dsimp only;split
      · rw[u5O,hy];exact ih
      · rw[u5O,hy];exact ih
theorem CompSc.capt {X:Cx} {own capt:List Str} {scope:Scope} {cl:List (Str×Addr)} {fr:List Nat} (clo:closureFor scope X.env=pure cl) (ok:CapOk X scope capt fr cl) (h1:∀z∈scope.names,z.2=.free->z.1∈capt)
  (h2:∀y∈scope.names,y.2≠.cell) (kind:scope.kind=.function) (names:∀y∈scope.names,y.2=.local->scope.names.lookup y.1=some .local):CompSc X own capt scope cl fr where
 clos:=clo
 nocell:=h2
 kind:=kind
 names:=names
 inn:=ok.inn
 has:=fun y e=>by
  refine ok.mem y ?_;have key:∃k,(y,k)∈(relabel scope X.env).names/\(k=.cell∨k=.free):=by
   rcases e with e|e
   ·exact⟨_,xX e,.inl rfl⟩
   ·exact⟨_,xX e,.inr rfl⟩
  obtain⟨k,hm,hk⟩:=key;unfold relabel at hm;obtain⟨⟨n,k0⟩,h3,h4⟩:=u4l.mp hm;have h5:n=y/\k0=.free:=by
   dsimp only at h4;split at h4
   ·rename_i c
    cases h4;simp only [u4a,beq_iff_eq] at c;exact⟨rfl,c.1.1⟩
   ·cases h4;rcases hk with rfl|rfl
    ·exact absurd rfl (h2 _ h3)
    ·exact⟨rfl,rfl⟩
  obtain⟨rfl,rfl⟩:=h5;exact h1 _ h3 rfl
 cap:=fun k y e=>by
  obtain⟨j,e1,e2,e3,e4⟩:=ok.at k y e;obtain⟨c,hc⟩:=ok.mem y (u4F e);exact⟨j,c,e1,e2,e3,hc,vA e4⟩
 len:=ok.len
end L2
namespace SM
noncomputable def yU (a b:Int):Int:=(Int.gcd a b:Int)
theorem z5O {a:Int} (h:0<=a):yU a 0=a:=by
 unfold yU;rw[Int.gcd_zero_right];omega
theorem z5P (a b:Int):yU a b=yU b a:=by unfold yU;rw[Int.gcd_comm]
theorem z1E (a b:Int):yU b (a%b)=yU a b:=by
 unfold yU;have e:a=b*(a/b)+a%b:=(u4S a b).symm;have:Int.gcd a b=Int.gcd (a%b) b:=by
  conv=>lhs;rw[e]
  rw[Int.gcd_mul_left_add_left]
 rw[this,Int.gcd_comm]
theorem y4 (a b:Int):yU a b∣a:=Int.gcd_dvd_left ..
theorem yN (a b:Int):yU a b∣b:=Int.gcd_dvd_right ..
theorem yh {a b:Int} (h:a≠0∨b≠0):0<yU a b:=by
 unfold yU;rcases h with h|h
 ·have:=Int.gcd_pos_of_ne_zero_left b h;omega
 ·have:=Int.gcd_pos_of_ne_zero_right a h;omega
theorem xJ {a:Int} (b:Int) (h:0<a):yU a b<=a:=Int.gcd_le_left b h
theorem y3r (a b:Int) (ha:0<=a) (hb:0<=b):∃x y,yU a b=a*x+b*y:=by
 by_cases h:b=0
 ·subst h;exact⟨1,0,by rw[z5O ha];omega⟩
 ·have m1:=u4g a h;have m2:=u4Y a (show 0<b by omega);obtain⟨x,y,e⟩:=y3r b (a%b) hb m1;refine⟨y,x-(a/b)*y,?_⟩;rw[←z1E,e];have q:=u4S a b;have:a*y=b*(a/b)*y+a%b*y:=by rw[←Int.add_mul,q]
  rw[Int.mul_sub,←u4t];omega
termination_by b.toNat
decreasing_by omega
noncomputable def z3v (a b:Int):Int:=a*(b/yU a b)
theorem z6M {a b:Int} (ha:1<=a) (hb:1<=b):z3v a b=(Int.lcm a b:Int):=by
 have g:=yh (a:=a) (b:=b) (by omega);have d:=yN a b;have e:yU a b*(Int.lcm a b:Int)=a*b:=by
  have:=Int.gcd_mul_lcm a b;have h2:((Int.gcd a b*Int.lcm a b:Nat):Int)=((a.natAbs*b.natAbs:Nat):Int):=by rw[this]
  rw[Int.natCast_mul,Int.natCast_mul] at h2;have h3:((a.natAbs:Nat):Int)=a:=by omega
  have h4:((b.natAbs:Nat):Int)=b:=by omega
  rw[h3,h4] at h2;exact h2
 unfold z3v;obtain⟨k,hk⟩:=d;have:b/yU a b=k:=by
  conv=>lhs;lhs;rw[hk]
  exact Int.mul_ediv_cancel_left k (by omega)
 rw[this];have e2:yU a b*(a*k)=yU a b*(Int.lcm a b:Int):=by
  rw[e];conv=>rhs;rw[hk]
  rw[←u4t,←u4t,Int.mul_comm (yU a b) a]
 exact Int.eq_of_mul_eq_mul_left (by omega) e2
theorem z3L {a b:Int} (ha:1<=a) (hb:1<=b):1<=z3v a b:=by
 rw[z6M ha hb];have:=Int.lcm_pos (m:=a) (n:=b) (by omega) (by omega);omega
theorem y4h {a b:Int} (ha:1<=a) (hb:1<=b):z3v a b<=a*b:=by
 unfold z3v;have g:=yh (a:=a) (b:=b) (by omega);have:b/yU a b<=b:=Int.ediv_le_self _ (by omega);exact u4E this (by omega)
theorem z3n (a b:Int):a∣z3v a b:=⟨_,rfl⟩
theorem z1Z {a b:Int} (ha:1<=a) (hb:1<=b):b∣z3v a b:=by rw[z6M ha hb];exact Int.dvd_lcm_right ..
theorem z7i {a b k:Int} (ha:1<=a) (hb:1<=b) (h1:a∣k) (h2:b∣k):z3v a b∣k:=by rw[z6M ha hb];exact Int.coe_lcm_dvd h1 h2
noncomputable def kJ (xs:List Int):Int:=xs.foldl z3v 1
theorem kq:∀(xs:List Int) (a:Int),1<=a->(∀x∈xs,1<=x)->1<=xs.foldl z3v a
 | [],_,h,_=>h
 | x::r,a,h,hx=>kq r (z3v a x) (z3L h (hx x (by simp))) fun y hy=>hx y (by simp [hy])
theorem kr {k:Int}:∀(xs:List Int) (a:Int),1<=a->(∀x∈xs,1<=x)->(xs.foldl z3v a∣k ↔ a∣k/\∀x∈xs,x∣k)
 | [],a,h,_=>by simp
 | x::r,a,h,hx=>by
  have x1:=hx x (by simp);rw[List.foldl_cons,kr r (z3v a x) (z3L h x1) fun y hy=>hx y (by simp [hy])];constructor
  ·rintro⟨h1,h2⟩;refine⟨u5K (z3n a x) h1,fun y hy=>?_⟩;rcases u3w.mp hy with e|hy
   ·rw[e];exact u5K (z1Z h x1) h1
   ·exact h2 y hy
  ·rintro⟨h1,h2⟩;exact⟨z7i h x1 h1 (h2 x (by simp)),fun y hy=>h2 y (by simp [hy])⟩
theorem kj {xs:List Int} (hx:∀x∈xs,1<=x):1<=kJ xs:=kq xs 1 (by omega) hx
theorem vG {xs:List Int} {k:Int} (hx:∀x∈xs,1<=x):kJ xs∣k ↔ ∀x∈xs,x∣k:=by
 unfold kJ;rw[kr xs 1 (by omega) hx];exact⟨fun h=>h.2,fun h=>⟨Int.one_dvd k,h⟩⟩
theorem y3H {xs:List Int} (hx:∀x∈xs,1<=x):∀x∈xs,x∣kJ xs:=(vG hx).mp (Int.dvd_refl _)
theorem y0S (xs:List Int) (x:Int):kJ (xs++[x])=z3v (kJ xs) x:=by unfold kJ;rw[List.foldl_append];rfl
theorem vH {B:Int} (hB:1<=B):∀(xs:List Int) (a:Int),1<=a->(∀x∈xs,1<=x/\x<=B)->xs.foldl z3v a<=a*B^xs.length
 | [],a,h,_=>by simp
 | x::r,a,h,hx=>by
  have x1:=hx x (by simp);have ih:=vH hB r (z3v a x) (z3L h x1.1) fun y hy=>hx y (by simp [hy]);have l:=y4h h x1.1;have p:(0:Int)<=B^r.length:=Int.pow_nonneg (by omega);rw[List.foldl_cons,u3x];refine Int.le_trans ih ?_;have m1:z3v a x<=a*B:=Int.le_trans l (u4E x1.2 (by omega));have m2:=u6H m1 p;rw[Int.pow_succ,Int.mul_comm (B^r.length) B,←u4t];exact m2
theorem y4g {B:Int} (hB:1<=B) {xs:List Int} (hx:∀x∈xs,1<=x/\x<=B):kJ xs<=B^xs.length:=by
 have:=vH hB xs 1 (by omega) hx;rw[Int.one_mul] at this;exact this
noncomputable def qJ (n b:Int):Int:=-((-n)/b)
theorem jE {n b:Int} (hb:0<b):n<=b*qJ n b/\b*qJ n b<n+b:=by
 unfold qJ;have h1:=u4S (-n) b;have h2:=u4g (-n) (show b≠0 by omega);have h3:=u4Y (-n) hb;rw[Int.mul_neg];omega
theorem z1J {n b k:Int} (hb:0<b) (h:n<=b*k):qJ n b<=k:=by
 have:=(jE (n:=n) hb).2;by_cases c:qJ n b<=k
 ·exact c
 ·exfalso;have h1:k+1<=qJ n b:=by omega
  have h2:=u4E h1 (u6U hb);rw[Int.mul_add,Int.mul_one] at h2;omega
theorem kI {n b:Int} (hb:0<b) (h:0<=n):0<=qJ n b:=by
 have h1:=(jE (n:=n) hb).1;by_cases c:0<=qJ n b
 ·exact c
 ·exfalso;have h2:=u4E (show qJ n b<=-1 by omega) (u6U hb);rw[Int.mul_neg,Int.mul_one] at h2;omega
noncomputable def z3U (w a lo n:Int):Option Int:=
 if h:a<=0 then none
 else if a*qJ lo a<=lo+n-1 then some (qJ lo a)
 else (z3U a (w%a) ((-(lo+n-1))%a) n).map fun j=>qJ (w*j+lo) a
termination_by a.toNat
decreasing_by
 have h1:=u4g w (show a≠0 by omega);have h2:=u4Y w (show 0<a by omega);omega
noncomputable def y1e (w a lo n i:Int):Prop:=(a*i-lo)%w<n
noncomputable def y1a (p:Int->Prop):Option Int->Prop
 | some i=>0<=i/\p i/\∀k,0<=k->k<i->¬p k
 | none=>∀k,0<=k->¬p k
theorem z2C {x w n:Int} (hw:0<w) (hn:n<=w):x%w<n ↔ ∃j,w*j<=x/\x<w*j+n:=by
 have h1:=u4S x w;have h2:=u4g x (show w≠0 by omega);have h3:=u4Y x hw;constructor
 ·intro h;exact⟨x/w,by omega,by omega⟩
 ·rintro⟨j,a,b⟩;have e:x%w=x-w*j:=by
   have z:(x-w*j)%w=x-w*j:=u6a (by omega) (by omega);rw[Int.sub_mul_emod_self_left] at z;exact z
  omega
theorem z5B {w a lo n:Int} (h:a<=0):z3U w a lo n=none:=by rw[z3U,dif_pos h]
theorem z5C {w a lo n:Int} (h:0<a) (h2:a*qJ lo a<=lo+n-1):z3U w a lo n=some (qJ lo a):=by rw[z3U,dif_neg (by omega),if_pos h2]
theorem z0x {w a lo n:Int} (h:0<a) (h2:¬a*qJ lo a<=lo+n-1):z3U w a lo n=(z3U a (w%a) ((-(lo+n-1))%a) n).map fun j=>qJ (w*j+lo) a:=by
 rw[z3U,dif_neg (by omega),if_neg h2]
structure Lvl (w a lo n:Int):Prop where
 a0:0<=a
 aw:a<w
 n1:1<=n
 l1:1<=lo
 l2:lo+n<=w
theorem Lvl.down {w a lo n:Int} (L:Lvl w a lo n) (h:0<a) (h2:¬a*qJ lo a<=lo+n-1):Lvl a (w%a) ((-(lo+n-1))%a) n:=by
 obtain⟨a0,aw,n1,l1,l2⟩:=L;have c1:=jE (n:=lo) h;have e1:=u4g w (show a≠0 by omega);have e2:=u4Y w h;have m1:=u4g (-(lo+n-1)) (show a≠0 by omega);have m2:=u4Y (-(lo+n-1)) h;have m3:=u4S (-(lo+n-1)) a;generalize hq:(-(lo+n-1))/a=q at m3;generalize (-(lo+n-1))%a=r at m1 m2 m3 ⊢;have k:-q=qJ lo a∨-q≠qJ lo a:=by omega
 have e:a*(-q)=lo+n-1+r:=by rw[Int.mul_neg];omega
 have cq:qJ lo a<=-q:=z1J h (by omega);have cq2:-q<=qJ lo a:=by
  by_cases z:-q<=qJ lo a
  ·exact z
  ·exfalso;have:=u4E (show qJ lo a+1<=-q by omega) (u6U h);rw[Int.mul_add,Int.mul_one] at this;omega
 have cq3:-q=qJ lo a:=by omega
 rw[cq3] at e;exact⟨e1,e2,n1,by omega,by omega⟩
theorem z0w {w a lo n:Int} (L:Lvl w a lo n) (h:0<a) {j:Int}:y1e a (w%a) ((-(lo+n-1))%a) n j ↔ ∃i,w*j+lo<=a*i/\a*i<=w*j+lo+n-1:=by
 obtain⟨a0,aw,n1,l1,l2⟩:=L;unfold y1e;have e:(w%a*j-(-(lo+n-1))%a)%a=(w*j+(lo+n-1))%a:=by
  have x1:=u4S w a;have x2:=u4S (-(lo+n-1)) a;generalize hq1:w/a=q1 at x1;generalize hq2:(-(lo+n-1))/a=q2 at x2;generalize hr1:w%a=r1 at x1 ⊢;generalize hr2:(-(lo+n-1))%a=r2 at x2 ⊢;have:w*j+(lo+n-1)=(r1*j-r2)+a*(q1*j-q2):=by
   rw[←x1,Int.mul_sub,Int.add_mul,u4t];omega
  rw[this,u4h]
 rw[e];constructor
 ·intro z;have x1:=u4S (w*j+(lo+n-1)) a;have x2:=u4g (w*j+(lo+n-1)) (show a≠0 by omega);exact⟨(w*j+(lo+n-1))/a,by omega,by omega⟩
 ·rintro⟨i,i1,i2⟩;by_cases na:n<=a
  ·exact (z2C h na).mpr ⟨i,by omega,by omega⟩
  ·have:=u4Y (w*j+(lo+n-1)) h;omega
theorem qW {w a lo n:Int} (L:Lvl w a lo n) {i:Int} (hi:0<=i):y1e w a lo n i ↔ ∃j,0<=j/\w*j+lo<=a*i/\a*i<=w*j+lo+n-1:=by
 obtain⟨a0,aw,n1,l1,l2⟩:=L;unfold y1e;rw[z2C (by omega) (by omega)];constructor
 ·rintro⟨j,j1,j2⟩;refine⟨j,?_,by omega,by omega⟩;have p:=Int.mul_nonneg a0 hi;by_cases c:0<=j
  ·exact c
  ·exfalso;have:=u4E (show j<=-1 by omega) (show (0:Int)<=w by omega);rw[Int.mul_neg,Int.mul_one] at this;omega
 ·rintro⟨j,_,j1,j2⟩;exact⟨j,by omega,by omega⟩
theorem w5 {w a lo n:Int} (L:Lvl w a lo n):y1a (y1e w a lo n) (z3U w a lo n):=by
 by_cases h:0<a
 ·have c1:=jE (n:=lo) h;have c0:=kI (n:=lo) h (by have:=L.l1;omega);by_cases h2:a*qJ lo a<=lo+n-1
  ·rw[z5C h h2];refine⟨c0,(qW L c0).mpr ⟨0,Int.le_refl 0,by omega,by omega⟩,fun k k0 k1 hk=>?_⟩;obtain⟨j,j0,j1,j2⟩:=(qW L k0).mp hk;have wj:=Int.mul_nonneg (show (0:Int)<=w by have:=L.a0;have:=L.aw;omega) j0;have:=z1J (n:=lo) h (k:=k) (by omega);omega
  ·rw[z0x h h2];have D:=L.down h h2;have ih:=w5 D;have w0:(0:Int)<=w:=by have:=L.a0;have:=L.aw;omega
   cases e:z3U a (w%a) ((-(lo+n-1))%a) n with
   | none=>
    rw[e] at ih;show ∀k,0<=k->¬_;intro k k0 hk;obtain⟨j,j0,j1,j2⟩:=(qW L k0).mp hk;exact ih j j0 ((z0w L h).mpr ⟨k,j1,j2⟩)
   | some j=>
    rw[e] at ih;obtain⟨j0,jh,jl⟩:=ih;obtain⟨i,i1,i2⟩:=(z0w L h).mp jh;have wj:=Int.mul_nonneg w0 j0;have s:=jE (n:=w*j+lo) h;have sle:=z1J (n:=w*j+lo) h i1;have sm:=u4E sle (u6U h);have s0:=kI (n:=w*j+lo) h (by have:=L.l1;omega);refine⟨s0,(qW L s0).mpr ⟨j,j0,s.1,by omega⟩,fun k k0 k1 hk=>?_⟩;obtain⟨j',j0',j1',j2'⟩:=(qW L k0).mp hk;have hj:=(z0w L h).mpr ⟨k,j1',j2'⟩;have jj:j<=j':=by
     by_cases c:j<=j'
     ·exact c
     ·exact absurd hj (jl j' j0' (by omega))
    have:=u4E jj w0;have:=z1J (n:=w*j+lo) h (k:=k) (by omega);have k1':k<qJ (w*j+lo) a:=k1;omega
 ·rw[z5B (by omega)];intro k k0 hk;obtain⟨j,j0,j1,j2⟩:=(qW L k0).mp hk;have a00:a=0:=by have:=L.a0;omega
  have w0:(0:Int)<=w:=by have:=L.a0;have:=L.aw;omega
  have wj:=Int.mul_nonneg w0 j0;have:=L.l1;rw[a00,Int.zero_mul] at j1;omega
termination_by a.toNat
decreasing_by
 have h1:=u4g w (show a≠0 by omega);have h2:=u4Y w (show 0<a by omega);omega
noncomputable def yY (st sp w n:Int):Option Int:=if st%w<n then some 0 else z3U w (sp%w) ((-st)%w) n
noncomputable def qM (st sp w n i:Int):Prop:=(st+sp*i)%w<n
theorem y4e {st w n:Int} (hw:0<w) (hn:1<=n) (h:¬st%w<n):(-st)%w=w-st%w:=by
 have h1:=u4S st w;have h3:=u4Y st hw;have e:-st=(w-st%w)+w*(-(st/w)-1):=by rw[Int.mul_sub,Int.mul_neg];omega
 rw[e,u4h];exact u6a (by omega) (by omega)
theorem y7T {st sp w n:Int} (hw:0<w) (hn:1<=n) (h:¬st%w<n):Lvl w (sp%w) ((-st)%w) n:=by
 have h3:=u4Y st hw;rw[y4e hw hn h];exact⟨u4g _ (by omega),u4Y _ hw,hn,by omega,by omega⟩
theorem z0y {st sp w n i:Int}:qM st sp w n i ↔ y1e w (sp%w) ((-st)%w) n i:=by
 unfold qM y1e;have e:(sp%w*i-(-st)%w)%w=(st+sp*i)%w:=by
  have x1:=u4S sp w;have x2:=u4S (-st) w;have:st+sp*i=(sp%w*i-(-st)%w)+w*(sp/w*i-(-st)/w):=by
   rw[Int.mul_sub,←u4t];have:sp*i=w*(sp/w)*i+sp%w*i:=by rw[←Int.add_mul,x1]
   omega
  rw[this,u4h]
 rw[e]
theorem yO {st sp w n:Int} (hw:0<w) (hn:1<=n):y1a (qM st sp w n) (yY st sp w n):=by
 unfold yY;by_cases h:st%w<n
 ·rw[if_pos h];refine⟨Int.le_refl 0,by unfold qM;simpa using h,fun k k0 k1=>by omega⟩
 ·rw[if_neg h];have:=w5 (y7T (sp:=sp) hw hn h);cases e:z3U w (sp%w) ((-st)%w) n with
  | none=>rw[e] at this;exact fun k k0 hk=>this k k0 (z0y.mp hk)
  | some i=>
   rw[e] at this;exact⟨this.1,z0y.mpr this.2.1,fun k k0 k1 hk=>this.2.2 k k0 k1 (z0y.mp hk)⟩
theorem z6O {st st' sp sp' w n i i':Int} (h:(st+sp*i)%w=(st'+sp'*i')%w):qM st sp w n i ↔ qM st' sp' w n i':=by
 unfold qM;rw[h]
theorem y4T {sp w:Int} (hw:0<w):∃q,sp*(w/yU w (sp%w))=w*q:=by
 have g0:=yh (a:=w) (b:=sp%w) (by omega);obtain⟨k,hk⟩:=y4 w (sp%w);obtain⟨m,hm⟩:=yN w (sp%w);have e1:w/yU w (sp%w)=k:=by
  conv=>lhs;lhs;rw[hk]
  exact Int.mul_ediv_cancel_left k (by omega)
 have e2:=u4S sp w;refine⟨sp/w*k+m,?_⟩;rw[e1]
 conv=>lhs;lhs;rw[←e2]
 rw[Int.add_mul,Int.mul_add,u4t];have:sp%w*k=w*m:=by
  conv=>lhs;rw[hm]
  conv=>rhs;lhs;rw[hk]
  rw[u4t,u4t,Int.mul_comm m k]
 rw[this]
theorem y4S {sp w:Int} (hw:0<w):1<=w/yU w (sp%w):=by
 have g0:=yh (a:=w) (b:=sp%w) (by omega);have g1:=xJ (sp%w) hw;have:=(Int.le_ediv_iff_mul_le g0 (a:=1) (b:=w)).mpr (by omega);exact this
theorem y0c {st sp w n i:Int} (hw:0<w):qM st sp w n (i+w/yU w (sp%w)) ↔ qM st sp w n i:=by
 obtain⟨q,hq⟩:=y4T (sp:=sp) hw;refine z6O ?_;rw[Int.mul_add,hq,←Int.add_assoc,u4h]
theorem qI {st sp w n i:Int} (hw:0<w) (hn:1<=n) (e:yY st sp w n=some i):i<w/yU w (sp%w):=by
 have h:=yO (st:=st) (sp:=sp) hw hn;rw[e] at h;have p:=y4S (sp:=sp) hw;by_cases c:i<w/yU w (sp%w)
 ·exact c
 ·refine absurd ?_ (h.2.2 (i-w/yU w (sp%w)) (by omega) (by omega));rw[←y0c hw];have e:i-w/yU w (sp%w)+w/yU w (sp%w)=i:=by omega
  rw[e];exact h.2.1
theorem y2k {st sp w:Int} (i:Int):(st+sp*i)%w%yU w (sp%w)=st%yU w (sp%w):=by
 rw[Int.emod_emod_of_dvd _ (y4 w (sp%w))];obtain⟨m,hm⟩:=yN w (sp%w);obtain⟨k,hk⟩:=y4 w (sp%w);have e2:=u4S sp w;have:st+sp*i=st+yU w (sp%w)*((k*(sp/w)+m)*i):=by
  have:sp=yU w (sp%w)*(k*(sp/w)+m):=by
   rw[Int.mul_add,←hm,←u4t,←hk];exact e2.symm
  conv=>lhs;rw[this]
  rw[u4t]
 rw[this,u4h]
theorem y2l {st sp w:Int} (hw:0<w) {x:Int} (x0:0<=x) (xw:x<w) (h:x%yU w (sp%w)=st%yU w (sp%w)):∃i,0<=i/\(st+sp*i)%w=x:=by
 have sp0:=u4g sp (show w≠0 by omega);obtain⟨u,v,e⟩:=y3r w (sp%w) (by omega) sp0;generalize hg:yU w (sp%w)=g at h e;have d:g∣x-st:=u6T (by rw[Int.sub_emod,h];simp);obtain⟨k,hk⟩:=d;refine⟨(v*k)%w,u4g _ (by omega),?_⟩;have e3:=u4S (v*k) w;have e2:=u4S sp w;have:st+sp*((v*k)%w)=x+w*(sp/w*(v*k)-u*k-sp*(v*k/w)):=by
  have a1:sp*((v*k)%w)=sp*(v*k)-w*(sp*(v*k/w)):=by
   have:(v*k)%w=v*k-w*(v*k/w):=by omega
   rw[this,Int.mul_sub,←u4t sp w,Int.mul_comm sp w,u4t w sp]
  have a2:sp*(v*k)=w*(sp/w*(v*k))+sp%w*(v*k):=by
   conv=>lhs;lhs;rw[←e2]
   rw[Int.add_mul,u4t]
  have a3:sp%w*(v*k)=g*k-w*(u*k):=by
   rw[e,Int.add_mul,u4t,u4t];omega
  rw[Int.mul_sub w,Int.mul_sub w];omega
 rw[this,u4h];exact u6a x0 xw
theorem wb {st sp w n:Int} (hw:0<w) (hn:1<=n):yY st sp w n=none ↔ n<=st%yU w (sp%w):=by
 have h:=yO (st:=st) (sp:=sp) hw hn;have g0:=yh (a:=w) (b:=sp%w) (by omega);have g1:=xJ (sp%w) hw;have r0:=u4g st (show yU w (sp%w)≠0 by omega);have r1:=u4Y st g0;constructor
 ·intro e;rw[e] at h;by_cases c:n<=st%yU w (sp%w)
  ·exact c
  ·obtain⟨i,i0,hi⟩:=y2l (st:=st) (sp:=sp) hw r0 (by omega) (Int.emod_emod_of_dvd st (Int.dvd_refl _));exact absurd (show qM st sp w n i by unfold qM;omega) (h i i0)
 ·intro e;cases e2:yY st sp w n with
  | none=>rfl
  | some i=>
   rw[e2] at h;have h2:=h.2.1;unfold qM at h2;have l:=y2k (st:=st) (sp:=sp) (w:=w) i;have x0:=u4g (st+sp*i) (show w≠0 by omega);generalize (st+sp*i)%w=x at h2 l x0;have:x%yU w (sp%w)<=x:=by
    have:=u4S x (yU w (sp%w));have:=Int.mul_nonneg (u6U g0) (Int.ediv_nonneg x0 (u6U g0));omega
   omega
noncomputable def NoPart (n k:Int):Prop:=∀d,2<=d->d<k->¬d∣n
structure IsPart (n d:Int):Prop where
 two:2<=d
 dvd:d∣n
 least:NoPart n d
theorem z0u {n p:Int} (h2:2<=n) (h:NoPart n p) (hp:0<=p) (hs:n<p*p):IsPart n n:=by
 refine⟨h2,Int.dvd_refl n,fun d d2 dn dd=>?_⟩;obtain⟨e,he⟩:=dd;have d0:0<d:=by omega
 have e2:2<=e:=by
  rcases (show e<=0∨e=1∨2<=e by omega) with c|c|c
  ·have:=u4E c (u6U d0);rw[Int.mul_zero] at this;omega
  ·subst c;omega
  ·exact c
 have hd:p<=d:=by
  by_cases c:p<=d
  ·exact c
  ·exact absurd ⟨e,he⟩ (h d d2 (by omega))
 have hee:p<=e:=by
  by_cases c:p<=e
  ·exact c
  ·exact absurd ⟨d,by rw[Int.mul_comm];exact he⟩ (h e e2 (by omega))
 have:=Int.mul_le_mul hd hee hp (by omega);omega
theorem yH {n d:Int} (h:n%d≠0):¬d∣n:=fun z=>h (Int.emod_eq_zero_of_dvd z)
theorem NoPart.five {n:Int} (h2:n%2≠0) (h3:n%3≠0):NoPart n 5:=by
 intro d d2 d5 hd;rcases (show d=2∨d=3∨d=4 by omega) with e|e|e
 ·subst e;exact yH h2 hd
 ·subst e;exact yH h3 hd
 ·subst e;exact yH h2 (u5K (by decide) hd)
theorem NoPart.six {n p:Int} (h:NoPart n p) (h2:n%2≠0) (h3:n%3≠0) (hp:p%6=5) (a:n%p≠0) (b:n%(p+2)≠0):NoPart n (p+6):=by
 intro d d2 d6 hd;rcases (show d<p∨d=p∨d=p+1∨d=p+2∨d=p+3∨d=p+4∨d=p+5 by omega) with e|e|e|e|e|e|e
 ·exact h d d2 e hd
 ·subst e;exact yH a hd
 ·exact yH h2 (u5K (show (2:Int)∣d by omega) hd)
 ·subst e;exact yH b hd
 ·exact yH h2 (u5K (show (2:Int)∣d by omega) hd)
 ·exact yH h3 (u5K (show (3:Int)∣d by omega) hd)
 ·exact yH h2 (u5K (show (2:Int)∣d by omega) hd)
theorem NoPart.two_on {n p:Int} (h:NoPart n p) (h2:n%2≠0) (hp:p%6=5) (a:n%p≠0):NoPart n (p+2):=by
 intro d d2 d6 hd;rcases (show d<p∨d=p∨d=p+1 by omega) with e|e|e
 ·exact h d d2 e hd
 ·subst e;exact yH a hd
 ·exact yH h2 (u5K (show (2:Int)∣d by omega) hd)
theorem y0a {w a lo n i:Int}:y1e w a lo n (i-w) ↔ y1e w a lo n i:=by
 unfold y1e;have:a*(i-w)-lo=a*i-lo+w*(-a):=by rw[Int.mul_sub,Int.mul_neg,Int.mul_comm w a];omega
 rw[this,u4h]
theorem y0b {w a lo n h:Int} (L:Lvl w a lo n) (e:z3U w a lo n=some h):0<=h/\h<w:=by
 have z:=w5 L;rw[e] at z;refine⟨z.1,?_⟩;by_cases c:h<w
 ·exact c
 ·exact absurd (y0a.mpr z.2.1) (z.2.2 (h-w) (by omega) (by have:=L.a0;have:=L.aw;omega))
noncomputable abbrev T3:=Int×Int×Int
noncomputable def z1a (lv:List T3) (h:Int):Int:=lv.foldr (fun t h=>qJ (t.1*h+t.2.2) t.2.1) h
theorem z2G (lv:List T3) (w a lo h:Int):z1a (lv++[(w,a,lo)]) h=z1a lv (qJ (w*h+lo) a):=by unfold z1a;rw[List.foldr_append];rfl
inductive Down (n w0 a0 lo0:Int):List T3->Int->Int->Int->Prop
 | top:Down n w0 a0 lo0 [] w0 a0 lo0
 | go {lv:List T3} {w a lo:Int}:Down n w0 a0 lo0 lv w a lo->0<a->¬a*qJ lo a<=lo+n-1->Down n w0 a0 lo0 (lv++[(w,a,lo)]) a (w%a) ((-(lo+n-1))%a)
theorem Down.lvl {n w0 a0 lo0:Int} {lv:List T3} {w a lo:Int} (d:Down n w0 a0 lo0 lv w a lo) (L:Lvl w0 a0 lo0 n):Lvl w a lo n/\w<=w0/\∀t∈lv,0<t.2.1/\t.2.1<t.1/\t.1<=w0/\1<=t.2.2/\t.2.2<=w0:=by
 induction d with
 | top=>exact⟨L,Int.le_refl _,fun t ht=>nomatch ht⟩
 | @go lv w a lo d h h2 ih=>
  obtain⟨l,b,c⟩:=ih;refine⟨l.down h h2,by have:=l.aw;omega,fun t ht=>?_⟩;rcases u4H.mp ht with z|z
  ·exact c t z
  ·have:t=(w,a,lo):=by simpa using z
   subst this;have:=l.aw;have:=l.l1;have:=l.l2;have:=l.n1;exact⟨h,by assumption,b,by assumption,by show lo<=w0;omega⟩
theorem Down.nohit {n w0 a0 lo0:Int} {lv:List T3} {w a lo:Int} (d:Down n w0 a0 lo0 lv w a lo) (e:z3U w a lo n=none):z3U w0 a0 lo0 n=none:=by
 induction d with
 | top=>exact e
 | @go lv w a lo d h h2 ih=>exact ih (by rw[z0x h h2,e];rfl)
theorem Down.hit {n w0 a0 lo0:Int} {lv:List T3} {w a lo h:Int} (d:Down n w0 a0 lo0 lv w a lo) (L:Lvl w0 a0 lo0 n) (e:z3U w a lo n=some h) :
  z3U w0 a0 lo0 n=some (z1a lv h)/\∀i:Nat,0<=z1a (lv.drop i) h/\z1a (lv.drop i) h<w0:=by
 induction d generalizing h with
 | top=>
  have:=y0b L e;exact⟨e,fun i=>by rw[List.drop_nil];exact this⟩
 | @go lv w a lo d q q2 ih=>
  obtain⟨l,b,_⟩:=d.lvl L;have e2:z3U w a lo n=some (qJ (w*h+lo) a):=by rw[z0x q q2,e];rfl
  obtain⟨i1,i2⟩:=ih e2;refine⟨by rw[z2G];exact i1,fun i=>?_⟩;by_cases c:i<=lv.length
  ·rw[List.drop_append_of_le_length c,z2G];exact i2 i
  ·rw[List.drop_eq_nil_of_le (by simp;omega)];have:=y0b (l.down q q2) e;have:=l.aw;exact⟨by show 0<=h;omega,by show h<w0;omega⟩
theorem y2u {w a:Int} (h:0<a) (hw:a<w):2*(a*(w%a))<=w*a:=by
 have e:=u4S w a;have r1:=u4Y w h;have r0:=u4g w (show a≠0 by omega);have q1:1<=w/a:=(Int.le_ediv_iff_mul_le h).mpr (by omega);have:=u4E q1 (u6U h);have e2:2*(w%a)<=w:=by omega
 have:=u4E e2 (u6U h);rw[Int.mul_comm w a,←u4t,Int.mul_comm 2 a,u4t];exact this
theorem Down.len {n w0 a0 lo0:Int} {lv:List T3} {w a lo:Int} (d:Down n w0 a0 lo0 lv w a lo) (L:Lvl w0 a0 lo0 n):2^lv.length*(w*a)<=w0*a0:=by
 induction d with
 | top=>simp
 | @go lv w a lo d h h2 ih=>
  obtain⟨l,b,_⟩:=d.lvl L;have m:=y2u h l.aw;have p:(0:Int)<=2^lv.length:=Int.pow_nonneg (by decide);have:=u4E m p;rw[u3s,u6G,Int.pow_succ,u4t];omega
theorem Down.short {n w0 a0 lo0:Int} {lv:List T3} {w a lo:Int} (d:Down n w0 a0 lo0 lv w a lo) (L:Lvl w0 a0 lo0 n) (B:Nat) (hB:w0<=2^B) (h:0<a):lv.length<=2*B:=by
 have e:=d.len L;obtain⟨l,b,_⟩:=d.lvl L;have h1:1<=w*a:=by
  have:=u4E (show 1<=a by omega) (show (0:Int)<=w by have:=l.aw;omega);have:=l.aw;omega
 have p:(0:Int)<=2^lv.length:=Int.pow_nonneg (by decide);have h2:=u4E h1 p;have h3:w0*a0<=2^B*2^B:=Int.mul_le_mul hB (by have:=L.aw;omega) L.a0 (Int.pow_nonneg (by decide));have h4:(2:Int)^lv.length<=2^(2*B):=by
  rw[Nat.two_mul,Int.pow_add];omega
 have h5:(2:Nat)^lv.length<=2^(2*B):=by
  have:((2^lv.length:Nat):Int)<=((2^(2*B):Nat):Int):=by
   rw[Int.natCast_pow,Int.natCast_pow];exact h4
  omega
 exact (Nat.pow_le_pow_iff_right (by decide)).mp h5
end SM
namespace L2
open PySem PySem.Spec PyProof.Rows SM
noncomputable def wA (t:T3):HO:=.tup [.int t.1,.int t.2.1,.int t.2.2]
noncomputable def Pl (H:Hp) (xs:List V) (ws:List T3):Prop:=xs.length=ws.length/\∀(i:Nat) t,ws[i]?=some t->∃p,xs[i]?=some (.ref p)/\H p=some (wA t)
theorem Pl.nil {H:Hp}:Pl H [] []:=⟨rfl,fun i t e=>by simp at e⟩
theorem Pl.same {H H':Hp} {xs:List V} {ws:List T3} (g:Same H H') (h:Pl H xs ws):Pl H' xs ws:=⟨h.1,fun i t e=>let ⟨p,e1,e2⟩:=h.2 i t e;⟨p,e1,g _ _ e2⟩⟩
theorem Pl.upd {H:Hp} {xs ys:List V} {ws:List T3} {L:Addr} {o:HO} (h:Pl H xs ws) (hL:H L=some (.lst ys)):Pl (upd H L o) xs ws:=⟨h.1,fun i t e=>by
 obtain⟨p,e1,e2⟩:=h.2 i t e;exact⟨p,e1,by rw[zb (xV e2 hL (by intro z;cases z))];exact e2⟩⟩
theorem Pl.updN {H:Hp} {xs:List V} {ws:List T3} {L:Addr} {o:HO} (h:Pl H xs ws) (hL:H L=none):Pl (L2.upd H L o) xs ws:=h.same (zJ hL o)
theorem Pl.snoc {H:Hp} {xs:List V} {ws:List T3} {p:Addr} {t:T3} (h:Pl H xs ws) (hp:H p=some (wA t)):Pl H (xs++[.ref p]) (ws++[t]):=by
 refine⟨by simp [h.1],fun i u e=>?_⟩;by_cases c:i<ws.length
 ·rw[u4k c] at e;obtain⟨b,e1,e2⟩:=h.2 i u e;exact⟨b,by rw[u4k (by rw[h.1];exact c)];exact e1,e2⟩
 ·rw[u4f (by omega)] at e;have z:i-ws.length=0:=by
   rcases Nat.eq_zero_or_pos (i-ws.length) with z|z
   ·exact z
   ·rw[u6I (by simp;omega)] at e;cases e
  rw[z] at e;cases e;exact⟨p,by rw[u4f (by rw[h.1];omega),h.1,z];rfl,hp⟩
theorem Pl.at {H:Hp} {xs:List V} {ws:List T3} (h:Pl H xs ws) {i:Nat} {x:V} (e:xs[i]?=some x):∃p t,ws[i]?=some t/\x=.ref p/\H p=some (wA t):=by
 have hi:i<ws.length:=by
  rw[←h.1];exact (u4K.mp e).1
 obtain⟨p,e1,e2⟩:=h.2 i ws[i] (u4A hi);rw[e] at e1;cases e1;exact⟨p,ws[i],u4A hi,rfl,e2⟩
theorem Pl.append {H:Hp} {xs ys:List V} {ws vs:List T3} (h:Pl H xs ws) (k:Pl H ys vs):Pl H (xs++ys) (ws++vs):=by
 refine⟨by simp [h.1,k.1],fun i t e=>?_⟩;by_cases c:i<ws.length
 ·rw[u4k c] at e;rw[u4k (by rw[h.1];exact c)];exact h.2 i t e
 ·rw[u4f (by omega)] at e;rw[u4f (by rw[h.1];omega),h.1];exact k.2 _ t e
theorem Pl.one {H:Hp} {p:Addr} {t:T3} (hp:H p=some (wA t)):Pl H [.ref p] [t]:=(Pl.nil (H:=H)).snoc hp
theorem Pl.ix {H:Hp} {xs:List V} {ws:List T3} (h:Pl H xs ws) {i:Int} (h0:0<=i) (h1:i<ws.length):∃p t,atI xs i=some (.ref p)/\ws[i.toNat]?=some t/\t∈ws/\H p=some (wA t):=by
 have hk:i.toNat<ws.length:=by omega
 obtain⟨p,e1,e2⟩:=h.2 i.toNat ws[i.toNat] (u4A hk);have ek:i=((i.toNat:Nat):Int):=by omega
 have q:atI xs ((i.toNat:Nat):Int)=some (.ref p):=ze e1;rw[←ek] at q;exact⟨p,_,q,u4A hk,u5T hk,e2⟩
section
variable {K:u3q} {H:Hp} {Q:VK} {a b:Addr} {xs ys:List V} {ws vs:List T3}
end
theorem Inv.turnedLaid {X:Cx} {pins:List (Addr×Obj)} {σ:St} {H:Hp} {s:Shared} {h':Heap} {t':Nat} {ch:List Addr} {T:Addr} {o:HO} (I:Inv X pins σ H s) (k:∀b u,b∉ch->s.heap.get? b=some u->h'.get? b=some u)
  (hc:∀b∈ch,z8J X pins H b) (hT:s.heap.objs.size<=T) (new:ObjOk X.prog X.w (upd H T o) h' T o):Inv X pins σ (upd H T o) { s with heap:=h',toks:=t' }:=by
 have nT:H T=none:=I.hok.fresh hT;have nit:∀b u,H b=some u->b∉ch:=fun b u e z=>by rw[(hc b z).1] at e;cases e
 have lt:∀b u,s.heap.get? b=some u->b≠T:=fun b u e=>u4c (u4X (u4D e) hT);refine I.step (g':=s.gens) (d':=s.drawn) (ch:=ch) (fun b hb=>⟨(hc b hb).2.2.2.1,(hc b hb).2.1,(hc b hb).2.2.2.2.1,(hc b hb).2.2.2.2.2⟩) (fun b u _ _ h e _=>k b u h e) (fun b u _ _ h e _=>⟨u.slots,k b u h e⟩)
  (fun b u _ e n=>by rw[zb (lt b u e)];exact n) (fun b u h e=>⟨u,k b u h e⟩) (fun b xs e=>by rw[zb (zW e nT)];exact e) (fun b u v e=>by rw[zb (zW e nT)];exact e)
  (fun b ps e=>⟨#[],by rw[zb (zW e nT),e];simp⟩) (fun m hm=>?_) (fun b u e=>?_) I.bare
 ·obtain⟨u,es,ep,ho,r⟩:=hm;exact⟨u,es,ep,k _ u (fun z=>(hc _ z).2.1 rfl) ho,r⟩
 ·by_cases hb:b=T
  ·subst hb;rw[zH] at e;cases e;exact new
  ·rw[zb hb] at e;refine (I.hok b u e).stay (fun c v hcc q=>k c v ?_ q) (fun c q=>by rw[zb (zW q nT)];exact q) fun c xs q=>by rw[zb (zW q nT)];exact q
   rcases hcc with z|z
   ·rw[z];exact nit b u e
   ·exact nit c _ z
theorem Inv.turnedL {X:Cx} {pins:List (Addr×Obj)} {σ:St} {H:Hp} {s:Shared} {h':Heap} {t':Nat} {ch:List Addr} (I:Inv X pins σ H s) (k:∀b u,b∉ch->s.heap.get? b=some u->h'.get? b=some u)
  (hc:∀b∈ch,z8J X pins H b):Inv X pins σ H { s with heap:=h',toks:=t' }:=by
 have nit:∀b u,H b=some u->b∉ch:=fun b u e z=>by rw[(hc b z).1] at e;cases e
 refine I.step (g':=s.gens) (d':=s.drawn) (ch:=ch) (fun b hb=>⟨(hc b hb).2.2.2.1,(hc b hb).2.1,(hc b hb).2.2.2.2.1,(hc b hb).2.2.2.2.2⟩) (fun b u _ _ h e _=>k b u h e) (fun b u _ _ h e _=>⟨u.slots,k b u h e⟩)
  (fun _ _ _ _ n=>n) (fun b u h e=>⟨u,k b u h e⟩) (fun _ _ e=>e) (fun _ _ _ e=>e) (fun b ps e=>⟨#[],by rw[e];simp⟩) (fun m hm=>?_) (fun b u e=>?_) I.bare
 ·obtain⟨u,es,ep,ho,r⟩:=hm;exact⟨u,es,ep,k _ u (fun z=>(hc _ z).2.1 rfl) ho,r⟩
 ·refine (I.hok b u e).stay (fun c v hcc q=>k c v ?_ q) (fun _ q=>q) fun _ _ q=>q;rcases hcc with z|z
  ·rw[z];exact nit b u e
  ·exact nit c _ z
noncomputable def Itp (n:Nat) (ok:Hp->Prop) (f:Nat->Hp->V->V->Prop):It:=
 ⟨fun i H=>i<n/\ok H,fun i H x H'=>∃T u v,H T=none/\x=.ref T/\H'=upd H T (.tup [u,v])/\f i H u v,fun i H=>i=n/\ok H⟩
noncomputable def okZ (K:u3q) (a b:Addr) (n:Nat) (H:Hp):Prop:=∃xs ys,SqL K H a xs/\SqL K H b ys/\min xs.length ys.length=n
noncomputable def Itz (K:u3q) (a b:Addr) (n:Nat):It:=Itp n (okZ K a b n) fun i H u v=>(∀xs,SqL K H a xs->xs[i]?=some u)/\∀ys,SqL K H b ys->ys[i]?=some v
noncomputable def y7x (K:u3q) (ta tb:TE):TI:=fun σ H R=>ta σ H fun x H1=>tb σ H1 fun y H2=>∃a b xs ys,x=.ref a/\y=.ref b/\SqL K H2 a xs/\SqL K H2 b ys/\R (Itz K a b (min xs.length ys.length)) H2
section
variable {X:Cx} {es:List Expr} {k:Nat} {tpos:Pos}
end
theorem z3P {K:u3q} {ta tb:TE} {σ:St} {H:Hp} {R:It->Hp->Prop}:y7x K ta tb σ H R=ta σ H fun x H1=>tb σ H1 fun y H2=>∃a b xs ys,x=.ref a/\y=.ref b/\SqL K H2 a xs/\SqL K H2 b ys/\R (Itz K a b (min xs.length ys.length)) H2:=rfl
noncomputable def okE (K:u3q) (a:Addr) (n:Nat) (H:Hp):Prop:=∃xs,SqL K H a xs/\xs.length=n
noncomputable def Ite (K:u3q) (a:Addr) (n:Nat):It:=Itp n (okE K a n) fun i H u v=>u=.int i/\∀xs,SqL K H a xs->xs[i]?=some v
noncomputable def tnE (e it l:Addr) (i:Nat) (h:Heap):Prop:=(∃old,IsEnum h e it i old)/\h.IsListIter it l i
theorem z9P {P:Program} {w:World} {K:u3q} {es:List Expr} {k:Nat} {pos:Pos} {e it l:Addr} {n:Nat} (d1:e≠it) (d2:l≠e) (d3:l≠it) :
  Turn P w K (.Tuple es k pos) (Ite K l n) [e,it] e (tnE e it l) where
 mem:=by simp
 obj:=fun i h st b hb=>by
  obtain⟨⟨old,h1⟩,⟨o4,h4,_,d4⟩⟩:=st;simp only [u3w,u4B,or_false] at hb;rcases hb with rfl|rfl
  ·exact⟨_,h1,fun v q=>nomatch q⟩
  ·exact⟨_,h4,fun v q=>by rw[d4] at q;cases q⟩
 keep:=fun i h h' st kk=>by
  obtain⟨⟨old,h1⟩,h4⟩:=st;exact⟨⟨old,kk _ (by simp) _ h1⟩,h4.at fun o e=>kk _ (by simp) o e⟩
 item:=by
  intro X hP hw hK hc i pins s σ H E I hf st hg;subst hP hw hK;obtain⟨hi,xs,ha,hn⟩:=hg;obtain⟨us,ru,pu,_⟩:=I.list ha;have lu:=ru.length;obtain⟨h1,h4⟩:=st;have WT:=WalksT.enumerate (prog:=X.prog) (w:=X.w) (A:=X.A) (I.ok.hd hc) e it l d1 d2 d3 us.toArray;refine WT.item i s _ _ (by simp only [u4I];omega) ⟨h1,h4,pu.isList⟩ fun T vals h' tk hPt hT tup mid kk=>?_;obtain⟨t,x,ex,rfl⟩:=hPt;have ex':us[i]?=some x:=by simpa using ex
  have hxl:i<xs.length:=by omega
  have gx:xs[i]?=some xs[i]:=u4A hxl;obtain⟨x2,q1,rx⟩:=ru.get gx;rw[ex'] at q1;cases q1;refine⟨.ref T,rfl,WT.go es k pos i T { s with heap:=h',toks:=tk } _ _ mid fun h2' st2 kk2=>?_⟩;have Tw:=WT.apart i T h' mid;have nT:H T=none:=I.hok.fresh hT;obtain⟨oT,hoT,cT,nT2,dT⟩:=tup;have tup2:IsTup h2' T #[.int i t,x]:=⟨oT,kk2 T oT Tw hoT,cT,nT2,dT⟩
  have I2:Inv X pins σ (upd H T (.tup [.int i,xs[i]])) { s with heap:=h2',toks:=tk }:=
   I.turnedLaid (fun b u hb e=>kk2 b u hb (kk b u hb e)) (fun b hb=>hf b hb) hT ⟨show 2<=u4L by decide,[.int i t,x],.cons ⟨t,rfl⟩ (.cons rx .nil),tup2⟩
  refine⟨.ref T,_,I2,rfl,⟨T,.int i,xs[i],nT,rfl,rfl,rfl,fun zs hz=>by rw[I.list_inj hz ha];exact gx⟩,?_,fun b hb=>?_⟩
  ·obtain⟨a1,a2,_⟩:=st2;exact⟨a1,a2⟩
  ·have:b≠T:=by
    rintro rfl;simp only [u3w,u4B,or_false] at hb;have lt:b<s.heap.objs.size:=by
     obtain⟨old,h1⟩:=h1;obtain⟨o4,h4,_⟩:=h4;rcases hb with rfl|rfl
     ·exact u4D h1
     ·exact u4D h4
    exact absurd (u4X lt hT) (u5n _)
   rw[zb this];exact (hf b hb).1
 done:=by
  intro X hP hw hK hc i pins s σ H E I hf st hg;subst hP hw hK;obtain⟨hi,xs,ha,hn⟩:=hg;obtain⟨us,ru,pu,_⟩:=I.list ha;have lu:=ru.length;obtain⟨h1,h4⟩:=st;have WT:=WalksT.enumerate (prog:=X.prog) (w:=X.w) (A:=X.A) (I.ok.hd hc) e it l d1 d2 d3 us.toArray;have ei:us.toArray.size=i:=by simp only [u4I];omega
  refine WT.done s _ _ (by rw[ei];exact⟨h1,h4,pu.isList⟩) fun h' tk kk=>⟨rfl,I.turnedL kk fun b hb=>hf b hb⟩
 self:=fun A i s Q E st h=>by
  obtain⟨⟨old,h1⟩,_⟩:=st;exact wpAny_pyIter_enum h1 h
noncomputable def y6Q (K:u3q) (ta:TE):TI:=fun σ H R=>ta σ H fun x H1=>∃a xs,x=.ref a/\SqL K H1 a xs/\R (Ite K a xs.length) H1
section
variable {X:Cx} {es:List Expr} {k:Nat} {tpos:Pos}
theorem y4Q {l:Expr} {tl:TE} {p pos:Pos} (hg:Gl X "enumerate") (hm:X.mg "enumerate" = none) (hl:PE X l tl) (hs:u4W [l] X.env=[(false,eval l X.env)]:=by rfl) :
  PI X (.Tuple es k tpos) (.Call (.Name "enumerate" p) [l] [] pos) (y6Q X.K tl):=by
 intro pins s σ H R I h;refine Call_ (ki I hg hm (u:=.type "enumerate") (by decide +kernel) (u5Z ?_ hs rfl));refine thn ((zB hl zE hs) pos pins s σ H (fun vs H1=>∃x:V,vs=[x]/\∃a xs,x=.ref a/\SqL X.K H1 a xs/\R (Ite X.K a xs.length) H1) I ?_) fun us s1 ⟨vs,H1,I1,r,x,e,a,xs,ea,ha,q⟩=>?_
 ·show tl σ H fun x H1=>∃x',[x]=[x']/\_;have e:(fun (x:V) (H1:Hp)=>∃x',[x]=[x']/\∃a xs,x'=V.ref a/\SqL X.K H1 a xs/\R (Ite X.K a xs.length) H1)=fun (x:V) (H1:Hp)=>∃a xs,x=V.ref a/\SqL X.K H1 a xs/\R (Ite X.K a xs.length) H1:=by
   funext x H1;refine propext ⟨fun⟨x',e,q⟩=>?_,fun q=>⟨x,rfl,q⟩⟩;cases e;exact q
  rw[e];exact h
 subst e ea;obtain⟨u,rfl,r1⟩:=Vals.one r;cases r1;obtain⟨us,ru,pu,_⟩:=I1.list ha;have la:a<s1.heap.objs.size:=by obtain⟨o,e,_⟩:=pu.isList;exact u4D e
 refine call_enumerate_list pu.isList fun h' hz hi1 hsz hk=>?_;refine wpAny_pyIter_enum hz ?_;have I2:Inv X pins σ H1 { s1 with heap:=h' }:=I1.kept (t':=s1.toks) hk;refine⟨_,_,_,_,H1,rfl,I2,z9P (Nat.succ_ne_self _) (u4c (Nat.lt_succ_of_lt la)) (u4c la),⟨⟨_,hz⟩,hi1⟩,fun c hc=>?_,q⟩;have hc':s1.heap.objs.size<=c:=by
  simp only [u3w,u4B,or_false] at hc;rcases hc with rfl|rfl <;> first|exact u3y _|exact Nat.le_add_right _ _
 exact I1.fpOk hc' (I1.hok.fresh hc')
end
theorem vm {K:u3q} {ta:TE} {σ:St} {H:Hp} {R:It->Hp->Prop}:y6Q K ta σ H R=ta σ H fun x H1=>∃a xs,x=.ref a/\SqL K H1 a xs/\R (Ite K a xs.length) H1:=rfl
theorem y0x {K:u3q} {a:Addr} {xs:List V} {g:TG} {tb:TS} {D:Ends} {σ:St} {H:Hp} (Pv:Nat->St->Hp->Prop) (h0:Pv 0 σ H) (hl:∀i σ H,Pv i σ H->SqL K H a xs)
  (hs:∀(i:Nat) v T σ H,xs[i]?=some v->H T=none->Pv i σ H->g (.ref T) σ (upd H T (.tup [.int i,v])) fun σ2 H2=>tb { D with nx:=Pv (i+1),ct:=Pv (i+1),bk:=D.nx } σ2 H2)
  (hd:∀σ H,Pv xs.length σ H->D.nx σ H):y5M (Ite K a xs.length) g tb D σ H:=by
 refine⟨fun i m σ H=>m=xs.length-i/\i<=xs.length/\Pv i σ H,⟨_,rfl,u4q _,h0⟩,?_⟩;rintro i m σ1 H1 ⟨rfl,hi,p⟩;have qa:=hl i σ1 H1 p;by_cases hlt:i<xs.length
 ·refine .inr ⟨⟨hlt,xs,qa,rfl⟩,Pv (i+1),fun σ' H' p'=>⟨xs.length-(i+1),by omega,rfl,hlt,p'⟩,fun x H' y=>?_⟩;obtain⟨T,u,v,nT,rfl,rfl,rfl,f2⟩:=y;exact hs i v T σ1 H1 (f2 xs qa) nT p
 ·have e:i=xs.length:=by omega
  subst e;exact .inl ⟨⟨rfl,xs,qa,rfl⟩,hd σ1 H1 p⟩
noncomputable def Its (lo c:Int) (n:Nat):It:=⟨fun i _=>i<n,fun i H x H'=>H'=H/\x=.int (lo+i*c),fun i _=>n<=i⟩
section
variable {X:Cx} {tg:Expr}
noncomputable def y6t (ta:TA):TI:=fun σ H R=>ta σ H fun vs H1=>∃i j:Int,vs=[.int i,.int j]/\R (Its i 1 (j-i).toNat) H1
noncomputable def y6u (ta:TA):TI:=fun σ H R=>ta σ H fun vs H1=>∃(i j c:Int) (n:Nat),vs=[.int i,.int j,.int c]/\0<c/\c<1000000/\(n:Int)=u6S i j c/\R (Its i c n) H1
end
section
variable {D:Ends} {σ:St} {H:Hp} {Q:VK}
theorem vf {ta:TA} {R:It->Hp->Prop}:y6t ta σ H R=ta σ H fun vs H1=>∃i j:Int,vs=[.int i,.int j]/\R (Its i 1 (j-i).toNat) H1:=rfl
theorem vg {ta:TA} {R:It->Hp->Prop}:y6u ta σ H R=ta σ H fun vs H1=>∃(i j c:Int) (n:Nat),vs=[.int i,.int j,.int c]/\0<c/\c<1000000/\(n:Int)=u6S i j c/\R (Its i c n) H1:=rfl
end
noncomputable def CI (mg:Str->Option Value) (x:Str) (n:Int):Prop:=∃t,mg x=some (.int n t)
theorem z6e {K:u3q} {h:Heap} {mg:Str->Option Value} {x:Str} {n:Int} {t:Tok} (X:K.In h) (G:h.Ns u4z mg) (a:PySem.W.nsIn K u4z x=some (some (.int n t))):CI mg x n:=⟨t,PySem.W.mg_of X G a⟩
theorem z3C {X:Cx} {x:Str} {n:Int} {pos:Pos} (hg:Gl X x) (h:CI X.mg x n) (hd:(x == ("__debug__" : Str))=false:=by decide):PE X (.Name x pos) (tC (.int n)):=by
 obtain⟨t,e⟩:=h;exact xN hg e ⟨t,rfl⟩ hd
noncomputable def CT (K:u3q) (mg:Str->Option Value) (x:Str) (ns:List Int):Prop:=∃a:Addr,mg x=some (.ref a)/\∀H:Hp,SqT K H a (ns.map V.int)
theorem y7B {K:u3q} {h:Heap} {mg:Str->Option Value} {x:Str} {ns:List Int} {a:Addr} {o:Obj} {its:Array Value} {n:Nat} (X:K.In h) (G:h.Ns u4z mg) (e:PySem.W.nsIn K u4z x=some (some (.ref a)))
  (l:K.lookup a=some o) (c:o.cls=.type "tuple") (d:o.data=.seq its n) (z:its.size<=u4L) (v:Vals (ns.map V.int) its.toList):CT K mg x ns:=⟨a,PySem.W.mg_of X G e,fun _=>.inr ⟨o,its,n,l,c,d,z,v⟩⟩
end L2
namespace SM
noncomputable def z6L (u:T3) (s r:Int):Bool:=decide (u.1-u.2.2<=(r-u.2.1-u.2.2)%yU s u.1)
theorem z1u {p l x:Int} (hp:1<=p) (l0:1<=l) (l1:l<p):(x-l)%p<p-l ↔ l<=x%p:=by
 have a:=u4g x (show p≠0 by omega);have b:=u4Y x (show 0<p by omega);have e:=u4S x p;by_cases c:l<=x%p
 ·have e2:(x-l)%p=x%p-l:=by
   have:x-l=(x%p-l)+p*(x/p):=by omega
   rw[this,u4h,u6a (by omega) (by omega)]
  rw[e2];omega
 ·have e2:(x-l)%p=x%p-l+p:=by
   have:x-l=(x%p-l+p)+p*(x/p-1):=by
    rw[Int.mul_sub,Int.mul_one];omega
   rw[this,u4h,u6a (by omega) (by omega)]
  rw[e2];omega
theorem y2j {p f l s r:Int} (hp:1<=p) (l0:1<=l) (l1:l<=p):(p-l<=(r-f-l)%yU s p) ↔ ∀k:Nat,(k:Int)<p->(r+s*k-f)%p<l:=by
 have b:∀x:Int,0<=x%p/\x%p<p:=fun x=>⟨u4g x (by omega),u4Y x (by omega)⟩
 have gp:=yh (a:=s) (b:=p) (by omega);by_cases c:l=p
 ·subst c;refine⟨fun _ k _=>(b _).2,fun _=>?_⟩;have:=u4g (r-f-l) (show yU s l≠0 by omega);omega
 ·have eg:yU p (s%p)=yU s p:=z1E s p;have N:=wb (st:=r-f-l) (sp:=s) (w:=p) (n:=p-l) (by omega) (by omega);rw[eg] at N;refine⟨fun h k hk=>?_,fun h=>?_⟩
  ·have n:=N.mpr h;have L:=yO (st:=r-f-l) (sp:=s) (w:=p) (n:=p-l) (by omega) (by omega);rw[n] at L;by_cases d:(r+s*k-f)%p<l
   ·exact d
   ·exfalso;have:=L k (by omega);unfold qM at this;have e:r-f-l+s*(k:Int)=(r+s*k-f)-l:=by omega
    rw[e] at this;exact this ((z1u hp l0 (by omega)).mpr (by omega))
  ·refine N.mp ?_;cases hf:yY (r-f-l) s p (p-l) with
   | none=>rfl
   | some i=>
    exfalso;have L:=yO (st:=r-f-l) (sp:=s) (w:=p) (n:=p-l) (by omega) (by omega);rw[hf] at L;obtain⟨i0,ih,_⟩:=L;unfold qM at ih;have il:=qI (w:=p) (by omega) (show 1<=p-l by omega) hf;have ip:p/yU p (s%p)<=p:=Int.ediv_le_self _ (by omega);have e:r-f-l+s*i=(r+s*i-f)-l:=by omega
    rw[e] at ih;have:=(z1u hp l0 (by omega)).mp ih;have hk:=h i.toNat (by omega);have ei:((i.toNat:Nat):Int)=i:=by omega
    rw[ei] at hk;omega
end SM
namespace L2
open PySem PySem.Spec PyProof.Rows SM
inductive Pap where
 | inn (k:Int)
 | par (b:Int) (ps:List Pap)
mutual
noncomputable def Pap.dep:Pap->Nat
 | .inn _=>0
 | .par _ ps=>Pap.deps ps+1
noncomputable def Pap.deps:List Pap->Nat
 | []=>0
 | p::ps=>max p.dep (Pap.deps ps)
end
theorem Pap.dep_mem:∀ {ps:List Pap} {p:Pap},p∈ps->p.dep<=Pap.deps ps
 | q::ps,p,h=>by
  simp only [Pap.deps];rcases u3w.mp h with e|e
  ·rw[e];omega
  ·have:=Pap.dep_mem e;omega
mutual
inductive PapIn (K:u3q) (N:Addr->Prop) (H:Hp):V->Pap->Prop where
 | inn {a:Addr} {k:Int}:H a=some (.tup [.str "in",.int k])->PapIn K N H (.ref a) (.inn k)
 | par {a l:Addr} {b:Int} {xs:List V} {ps:List Pap}:H a=some (.tup [.str "parted",.int b,.ref l])->H l=some (.lst xs)->N l->xs.length<2^60->PapsIn K N H xs ps->PapIn K N H (.ref a) (.par b ps)
inductive PapsIn (K:u3q) (N:Addr->Prop) (H:Hp):List V->List Pap->Prop where
 | nil:PapsIn K N H [] []
 | cons {x:V} {xs:List V} {p:Pap} {ps:List Pap}:PapIn K N H x p->PapsIn K N H xs ps->PapsIn K N H (x::xs) (p::ps)
end
section
variable {K:u3q} {N N':Addr->Prop} {H H':Hp}
mutual
theorem PapIn.mono (g:Same H H'):∀ {v:V} {p:Pap},PapIn K N H v p->PapIn K N H' v p
 | _,_,.inn h=>.inn (g _ _ h)
 | _,_,.par h hl n hz hs=>.par (g _ _ h) (g _ _ hl) n hz (PapsIn.mono g hs)
theorem PapsIn.mono (g:Same H H'):∀ {vs:List V} {ps:List Pap},PapsIn K N H vs ps->PapsIn K N H' vs ps
 | _,_,.nil=>.nil
 | _,_,.cons h hs=>.cons (PapIn.mono g h) (PapsIn.mono g hs)
end
mutual
theorem PapIn.imp (f:∀l,N l->N' l):∀ {v:V} {p:Pap},PapIn K N H v p->PapIn K N' H v p
 | _,_,.inn h=>.inn h
 | _,_,.par h hl n hz hs=>.par h hl (f _ n) hz (PapsIn.imp f hs)
theorem PapsIn.imp (f:∀l,N l->N' l):∀ {vs:List V} {ps:List Pap},PapsIn K N H vs ps->PapsIn K N' H vs ps
 | _,_,.nil=>.nil
 | _,_,.cons h hs=>.cons (PapIn.imp f h) (PapsIn.imp f hs)
end
theorem z2J {D b:Addr} {zs ys:List V} {o:HO} (hD:H D=some (.lst zs)) (h:H b=some (.tup ys)):upd H D o b=some (.tup ys):=by
 rw[zb (xV h hD (by intro z;cases z))];exact h
mutual
theorem PapIn.write {D:Addr} {zs:List V} {o:HO} (hD:H D=some (.lst zs)) (f:∀l,N l->l≠D):∀ {v:V} {p:Pap},PapIn K N H v p->PapIn K N (upd H D o) v p
 | _,_,.inn h=>.inn (z2J hD h)
 | _,_,.par h hl n hz hs=>.par (z2J hD h) (by rw[zb (f _ n)];exact hl) n hz (PapsIn.write hD f hs)
theorem PapsIn.write {D:Addr} {zs:List V} {o:HO} (hD:H D=some (.lst zs)) (f:∀l,N l->l≠D):∀ {vs:List V} {ps:List Pap},PapsIn K N H vs ps->PapsIn K N (upd H D o) vs ps
 | _,_,.nil=>.nil
 | _,_,.cons h hs=>.cons (PapIn.write hD f h) (PapsIn.write hD f hs)
end
theorem PapsIn.len:∀ {xs:List V} {ps:List Pap},PapsIn K N H xs ps->xs.length=ps.length
 | _,_,.nil=>rfl
 | _,_,.cons _ h=>by simp [h.len]
theorem PapsIn.at:∀ {xs:List V} {ps:List Pap},PapsIn K N H xs ps->∀ {i:Nat} {x:V},xs[i]?=some x->∃p,ps[i]?=some p/\PapIn K N H x p
 | _,_,.nil,i,x,e=>by simp at e
 | _,_,.cons h hs,0,x,e=>by cases e;exact⟨_,rfl,h⟩
 | _,_,.cons h hs,i+1,x,e=>by simpa using hs.at (i:=i) (by simpa using e)
theorem PapsIn.append:∀ {xs ys:List V} {ps qs:List Pap},PapsIn K N H xs ps->PapsIn K N H ys qs->PapsIn K N H (xs++ys) (ps++qs)
 | _,_,_,_,.nil,k=>k
 | _,_,_,_,.cons h hs,k=>.cons h (hs.append k)
theorem PapsIn.snoc {xs:List V} {ps:List Pap} {x:V} {p:Pap} (h:PapsIn K N H xs ps) (k:PapIn K N H x p):PapsIn K N H (xs++[x]) (ps++[p]):=h.append (.cons k .nil)
end
noncomputable abbrev z3w:Addr->Prop:=fun _=>True
theorem PapIn.any {K:u3q} {N:Addr->Prop} {H:Hp} {v:V} {p:Pap} (h:PapIn K N H v p):PapIn K z3w H v p:=h.imp fun _ _=>trivial
mutual
noncomputable def yB (ws:List T3) (s r:Int):Pap->Bool
 | .inn k=>decide (0<=k) && (decide (k<ws.length) && z6L (ws.getD k.toNat (1,0,1)) s r)
 | .par b ps=>decide (2<=b) && (decide ((ps.length:Int)=b) && yM ws s r b 0 ps)
noncomputable def yM (ws:List T3) (s r b:Int):Nat->List Pap->Bool
 | _,[]=>true
 | c,p::ps=>yB ws (s*b) (r+s*c) p && yM ws s r b (c+1) ps
end
theorem jz {ws:List T3} {s r b:Int}:∀ {ps:List Pap} {c i:Nat} {p:Pap},ps[i]?=some p->yM ws s r b c (ps.take (i+1))=(yM ws s r b c (ps.take i) && yB ws (s*b) (r+s*((c+i:Nat):Int)) p)
 | [],c,i,p,e=>by simp at e
 | q::ps,c,0,p,e=>by
  cases e;simp [yM]
 | q::ps,c,i+1,p,e=>by
  have e':ps[i]?=some p:=by simpa using e
  have ih:=jz (ws:=ws) (s:=s) (r:=r) (b:=b) (c:=c+1) e';simp only [u6A,yM];rw[ih,Bool.and_assoc];have:c+1+i=c+(i+1):=by omega
  rw[this]
theorem kX {ws:List T3} {s r b:Int}:∀ {ps:List Pap} {c i:Nat} {p:Pap},ps[i]?=some p->yB ws (s*b) (r+s*((c+i:Nat):Int)) p=false->yM ws s r b c ps=false
 | [],c,i,p,e,_=>by simp at e
 | q::ps,c,0,p,e,h=>by
  cases e;simp only [yM];rw[show c+0=c from rfl] at h;rw[h,Bool.false_and]
 | q::ps,c,i+1,p,e,h=>by
  have e':ps[i]?=some p:=by simpa using e
  simp only [yM];have:c+(i+1)=c+1+i:=by omega
  rw[this] at h;rw[kX e' h,Bool.and_false]
mutual
noncomputable def Pap.kn:Pap->Nat
 | .inn _=>1
 | .par _ ps=>Pap.kns ps+1
noncomputable def Pap.kns:List Pap->Nat
 | []=>0
 | p::ps=>p.kn+Pap.kns ps
end
mutual
noncomputable def Pap.nm:Pap->List Int
 | .inn k=>[k]
 | .par _ ps=>Pap.nms ps
noncomputable def Pap.nms:List Pap->List Int
 | []=>[]
 | p::ps=>p.nm++Pap.nms ps
end
theorem Pap.kn_pos (p:Pap):1<=p.kn:=by cases p <;> simp [Pap.kn]
theorem Pap.kn_mem:∀ {ps:List Pap} {p:Pap},p∈ps->p.kn<=Pap.kns ps
 | q::ps,p,h=>by
  simp only [Pap.kns];rcases u3w.mp h with e|e
  ·rw[e];omega
  ·have:=Pap.kn_mem e;omega
theorem Pap.kns_len:∀ps:List Pap,ps.length<=Pap.kns ps
 | []=>u4q _
 | p::ps=>by
  have:=Pap.kns_len ps;have:=p.kn_pos;simp only [Pap.kns,u3x];omega
mutual
theorem Pap.nm_len:∀p:Pap,p.nm.length<=p.kn
 | .inn _=>by simp [Pap.nm,Pap.kn]
 | .par _ ps=>by
  have:=Pap.nms_len ps;simp only [Pap.nm,Pap.kn];omega
theorem Pap.nms_len:∀ps:List Pap,(Pap.nms ps).length<=Pap.kns ps
 | []=>by simp [Pap.nms]
 | p::ps=>by
  have h1:=p.nm_len;have h2:=Pap.nms_len ps;simp only [Pap.nms,Pap.kns,u3s];omega
end
theorem Pap.kns_take:∀ {ps:List Pap} {i:Nat} {p:Pap},ps[i]?=some p->Pap.kns (ps.take (i+1))=Pap.kns (ps.take i)+p.kn
 | [],i,p,e=>by simp at e
 | q::ps,0,p,e=>by cases e;simp [Pap.kns]
 | q::ps,i+1,p,e=>by
  have:=Pap.kns_take (ps:=ps) (i:=i) (by simpa using e);simp only [u6A,Pap.kns];omega
theorem Pap.nms_take:∀ {ps:List Pap} {i:Nat} {p:Pap},ps[i]?=some p->Pap.nms (ps.take (i+1))=Pap.nms (ps.take i)++p.nm
 | [],i,p,e=>by simp at e
 | q::ps,0,p,e=>by cases e;simp [Pap.nms]
 | q::ps,i+1,p,e=>by
  have:=Pap.nms_take (ps:=ps) (i:=i) (by simpa using e);simp only [u6A,Pap.nms,this,u4m]
theorem Pap.kns_append:∀(ps qs:List Pap),Pap.kns (ps++qs)=Pap.kns ps+Pap.kns qs
 | [],qs=>by simp [Pap.kns]
 | p::ps,qs=>by simp only [u5G,Pap.kns,Pap.kns_append ps qs];omega
section
variable {K:u3q} {N:Addr->Prop} {H H':Hp} {X:Addr} {zs:List V}
end
section
variable {X:Cx}
end
theorem z2b {K:u3q} {T:String} {r:V->List V->Hp->VK->Prop} {to:TE} {σ:St} {H:Hp} {Q:VK}:y7j K T r to σ H Q=to σ H fun x H1=>tyV K T x H1/\r x [] H1 Q:=rfl
noncomputable def Wk (u:T3):Prop:=1<=u.1/\0<=u.2.1/\u.2.1<u.1/\1<=u.2.2/\u.2.2<=u.1
section
variable {K:u3q} {N:Addr->Prop} {H H':Hp} {X Y:Addr} {xs ys:List V}
end
section
variable {K:u3q} {N:Addr->Prop} {H:Hp}
end
mutual
noncomputable def Pap.pd:Pap->PyData
 | .inn k=>.tuple [.str "in",.int k]
 | .par b ps=>.tuple [.str "parted",.int b,.list (Pap.pds ps)]
noncomputable def Pap.pds:List Pap->List PyData
 | []=>[]
 | p::ps=>p.pd::Pap.pds ps
end
mutual
theorem PapIn.dd {K:u3q} {N:Addr->Prop} {H:Hp}:∀ {v:V} {p:Pap},PapIn K N H v p->DD K H v p.pd
 | _,_,.inn h=>by
  simp only [Pap.pd];exact .tup (SqT.of h) (.cons (.str _) (.cons (.int _) .nil))
 | _,_,.par h hl _ _ hs=>by
  simp only [Pap.pd];exact .tup (SqT.of h) (.cons (.str _) (.cons (.int _) (.cons (.lst (SqL.of hl) (PapsIn.dds hs)) .nil)))
theorem PapsIn.dds {K:u3q} {N:Addr->Prop} {H:Hp}:∀ {vs:List V} {ps:List Pap},PapsIn K N H vs ps->DDs K H vs (Pap.pds ps)
 | _,_,.nil=>by simp only [Pap.pds];exact .nil
 | _,_,.cons h hs=>by simp only [Pap.pds];exact .cons (PapIn.dd h) (PapsIn.dds hs)
end
theorem kt {α:Type} {p:α->Bool}:∀ {l:List α} {i:Nat},(∀a,l[i]?=some a->p a=false)->(l.eraseIdx i).find? p=l.find? p
 | [],_,_=>by simp
 | a::l,0,h=>by
  have:=h a rfl;simp [List.eraseIdx,List.find?,this]
 | a::l,i+1,h=>by
  have:=kt (l:=l) (i:=i) (p:=p) fun b e=>h b (by simpa using e);simp only [List.eraseIdx,List.find?,this]
theorem ObjOk.there {P:Program} {w:World} {H:Hp} {h:Heap} {a:Addr}:∀ {o:HO},ObjOk P w H h a o->∃u,h.get? a=some u:=fun {o} x=>by
 induction o with
 | lst xs=>obtain⟨_,_,_,_,e⟩:=x;exact⟨_,e⟩
 | tup xs=>obtain⟨_,_,_,p⟩:=x;obtain⟨u,hu,_⟩:=p;exact⟨u,hu⟩
 | dK kvs=>obtain⟨_,_,_,_,o,_,_,e,_⟩:=x;exact⟨_,e⟩
 | dT kvs=>obtain⟨_,_,_,_,o,_,_,e,_⟩:=x;exact⟨_,e⟩
 | set S n=>obtain⟨o,_,_,_,e,_⟩:=x;exact⟨_,e⟩
 | ins C dx fs=>obtain⟨_,_,_,e,_⟩:=x;exact⟨_,e⟩
 | own y=>obtain⟨_,e⟩:=x;exact⟨_,e⟩
 | xd fs=>obtain⟨_,⟨_,_,_,e,_⟩,_⟩:=x;exact⟨_,e⟩
 | rng lo hi=>obtain⟨_,_,_,e⟩:=x;exact⟨_,e⟩
 | frz o u _=>exact⟨_,x.1⟩
 | tbl ps=>exact⟨_,x⟩
 | met f y=>exact⟨_,x⟩
 | ext φ=>exact x.2.1
structure Fly (h₀:Heap) (H:Hp) (h:Heap) (e:Addr) (cls:Value):Prop where
 new:h₀.get? e=none
 free:H e=none
 obj:∃oe vs T oT ts a0,h.get? e=some oe/\(oe.cls=cls/\vs[0]?=some a0)/\oe.data=.fields vs/\vs[1]?=some (.ref T)/\T≠e/\h.get? T=some oT/\oT.data=.fields ts/\ts[3]?=some .none/\
  h₀.get? T=none/\H T=none
noncomputable def CXx (P:Program) (w:World):CXT:=fun outer H s E e s'=>
 ∃a cls H',e=.ref a/\s'.os=s.os/\AllBare s'.gens/\Un (frs outer) [] H H' s.heap s'.heap/\HOk P w H' s'.heap/\Fly s.heap H' s'.heap a cls/\E cls (some a) H'
theorem HOk.but {P:Program} {w:World} {H:Hp} {h h':Heap} (hok:HOk P w H h) (as:List Addr) (hn:∀a∈as,H a=none) (k:∀b o,b∉as->h.get? b=some o->h'.get? b=some o):HOk P w H h':=fun b u e=>by
 refine (hok b u e).stay (fun c v hc q=>k c v (fun z=>?_) q) (fun _ q=>q) fun _ _ q=>q;rcases hc with rfl|hc
 ·rw[hn _ z] at e;cases e
 ·rw[hn _ z] at hc;cases hc
section
variable {P:Program} {w:World} {K:u3q} {mg:Str->Option Value} {base:Heap} {N:List Str} {qual:Str} {scope:Scope} {f:Addr} {cd:Value} {A:Around} {outer:List Env} {s:Shared} {H H1:Hp} {E:XK}
 {pins:List (Addr×Obj)} {σ:St} {s1:Shared} {e:Addr} {cls:Value}
theorem z7h {B:Heap} {a0:Value} {h h':Heap} {as:List Addr} {stk:List Env} (hB:B=u5s h (frs stk++as)) (has:∀a∈as,s.heap.get? a=none/\H1 a=none) (hea:e∈as)
  (hfs:∀b∈frs stk,H1 b=none) (hsub:∀b∈frs outer,b∈frs stk) (hnew:∀b∈frs stk,b∉frs outer->s.heap.get? b=none)
  (u:Un (frs outer) [] H H1 s.heap h) (hok:HOk P w H1 h) (L:Heap.LeftW B stk e cls a0 h h') (hF:h.FunFrames base stk):Un (frs outer) [] H H1 s.heap h'/\HOk P w H1 h'/\Fly s.heap H1 h' e cls:=by
 subst hB;obtain⟨k1,k2,⟨oe,vs,T,oT,ts,he,hc,hd,h1,hnT,hTe,hT,hdT,h3⟩,k4⟩:=L;have keep:∀b o,b∉frs stk++as->h.get? b=some o->h'.get? b=some o:=fun b o hb q=>k1 b o (PySem.W.hideAll_get _ q hb);have hall:∀a∈frs stk++as,H1 a=none:=fun a ha=>(u4H.mp ha).elim (hfs a) fun z=>(has a z).2;have newAs:∀ {b:Addr} {o:Obj},s.heap.get? b=some o->b∉as:=fun {b o} q z=>by rw[(has b z).1] at q;cases q
 have hTf:T∉frs stk:=fun z=>by
  obtain⟨_,o,ho,hx⟩:=k2.mem z;rw[hT] at ho;cases ho;exact hx _ hdT
 have out:∀o,h.get? T=some o->T∈as:=fun o q=>by
  by_cases z:T∈frs stk++as
  ·exact (u4H.mp z).elim (fun y=>absurd y hTf) id
  ·have:=PySem.W.hideAll_get (h:=h) _ q z;rw[hnT] at this;cases this
 have slot:∀b o,h.get? b=some o->b∈frs stk->∃sl,h'.get? b=some { o with slots:=sl }:=fun b o q hb=>by
  obtain⟨_,o',ho',hx⟩:=hF.mem hb;rw[q] at ho';cases ho';exact k4 b o q hx
 refine⟨⟨fun b o q n hb hx=>?_,fun b o q n hb hx=>?_,u.free,fun b o q hx=>?_,u.tups,u.frzs,u.tbls⟩,hok.but _ hall keep,⟨(has e hea).1,(has e hea).2,oe,vs,T,oT,ts,a0,he,hc,hd,h1,hTe,hT,hdT,h3,?_,?_⟩⟩
 ·refine keep b o (fun z=>(u4H.mp z).elim (fun y=>?_) (newAs q)) (u.keep b o q n hb hx);by_cases hb':b∈frs outer
  ·exact hb hb'
  ·rw[hnew b y hb'] at q;cases q
 ·obtain⟨sl,e1⟩:=u.slot b o q n hb hx;obtain⟨sl',e2⟩:=slot b _ e1 (hsub b hb);exact⟨sl',e2⟩
 ·obtain⟨o',e1⟩:=u.there b o q hx;by_cases z:b∈frs stk
  ·obtain⟨sl,e2⟩:=slot b _ e1 z;exact⟨_,e2⟩
  ·exact⟨o',keep b o' (fun y=>(u4H.mp y).elim z (newAs q)) e1⟩
 ·cases q:s.heap.get? T with
  | none=>rfl
  | some o=>
   obtain⟨o',e1⟩:=u.there T o q (by simp);exact absurd (out o' e1) (newAs q)
 ·cases q:H1 T with
  | none=>rfl
  | some o=>
   obtain⟨o',e1⟩:=ObjOk.there (hok T o q);rw[(has T (out o' e1)).2] at q;cases q
theorem z5q {h':Heap} {vs:List Value} (I:Inv (z1G (CXx P w) P w K mg base N qual scope f cd A outer s H E) pins σ H1 s1) (hx:Heap.MadeExcOf s1.heap h' e cls vs) (q:E cls (some e) H1) :
  (z1G (CXx P w) P w K mg base N qual scope f cd A outer s H E).xe (.ref e) { s1 with heap:=h' }:=by
 have hok:HOk P w H1 h':=I.hok.kept hx.keeps;have he1:H1 e=none:=by
  cases z:H1 e with
  | none=>rfl
  | some o=>
   obtain⟨o',e1⟩:=ObjOk.there (I.hok e o z);rw[hx.new] at e1;cases e1
 have hes:s.heap.get? e=none:=by
  cases z:s.heap.get? e with
  | none=>rfl
  | some o=>
   obtain⟨o',e1⟩:=I.base.there e o z (u4B);rw[hx.new] at e1;cases e1
 have hu:Un (frs outer) [] H H1 s.heap h':=Un.trans I.base (Un.kept hx.keeps);have hF:h'.FunFrames base (envOfC qual scope s.heap.objs.size f cd::outer):=Heap.FunFrames.of_keeps (fun b o z _=>⟨o,hx.keeps b o z,rfl⟩) I.stack;have hnw:∀b∈frs (envOfC qual scope s.heap.objs.size f cd::outer),b∉frs outer->s.heap.get? b=none:=fun b hb hn=>by
  rcases u3w.mp hb with rfl|hb
  ·exact Heap.get?_none_of_le (u3y _)
  ·exact absurd hb hn
 obtain⟨t,he,_,_⟩:=hx.there;refine wpAny_leaving_firstW (base:=u5s h' (frs (envOfC qual scope s.heap.objs.size f cd::outer)++[e])) (outer:=outer) (L:=s.heap.objs.size) (a0:=.ref t) I.ok.frames
  (PySem.W.funFrames_hide hF fun env z a ha=>u5w _ (u5g.mpr ⟨env,z,ha⟩)) rfl he (fun b o z=>PySem.W.of_hideAll _ z) (u5e _ (by simp)) rfl rfl rfl fun h2 L=>?_
 obtain⟨x1,x2,x3⟩:=z7h (P:=P) (w:=w) (base:=base) (outer:=outer) (s:=s) (H:=H) (H1:=H1) (as:=[e]) rfl (fun a ha=>by rw[u4O.mp ha];exact⟨hes,he1⟩) (by simp) I.stkFree (fun b hb=>u4Z _ hb) hnw hu hok L hF;exact⟨e,cls,H1,rfl,I.os,I.bare,x1,x2,x3,q⟩
theorem z9Q (I:Inv (z1G (CXx P w) P w K mg base N qual scope f cd A outer s H E) pins σ H1 s1) (fl:Fly s.heap H1 s1.heap e cls) (q:E cls (some e) H1) :
  (z1G (CXx P w) P w K mg base N qual scope f cd A outer s H E).xe (.ref e) s1:=by
 obtain⟨oe,vs,T,oT,ts,a0,he,hc,hd,h1,hTe,hT,hdT,h3,hsT,hHT⟩:=fl.obj;have hF:s1.heap.FunFrames base (envOfC qual scope s.heap.objs.size f cd::outer):=I.stack;have hnw:∀b∈frs (envOfC qual scope s.heap.objs.size f cd::outer),b∉frs outer->s.heap.get? b=none:=fun b hb hn=>by
  rcases u3w.mp hb with rfl|hb
  ·exact Heap.get?_none_of_le (u3y _)
  ·exact absurd hb hn
 have has:∀a∈[e,T],s.heap.get? a=none/\H1 a=none:=fun a ha=>by
  rcases u3w.mp ha with rfl|ha
  ·exact⟨fl.new,fl.free⟩
  ·rw[u4O.mp ha];exact⟨hsT,hHT⟩
 refine wpAny_leaving_nextW (base:=u5s s1.heap (frs (envOfC qual scope s.heap.objs.size f cd::outer)++[e,T])) (outer:=outer) (L:=s.heap.objs.size) (cls:=cls) (a0:=a0) I.ok.frames
  (PySem.W.funFrames_hide hF fun env z a ha=>u5w _ (u5g.mpr ⟨env,z,ha⟩)) rfl ⟨oe,vs,T,oT,ts,he,hc,hd,h1,u5e _ (by simp),hTe,hT,hdT,h3⟩
  (fun b o z=>PySem.W.of_hideAll _ z) (u5e _ (by simp)) fun h2 L=>?_
 obtain⟨x1,x2,x3⟩:=z7h (P:=P) (w:=w) (base:=base) (outer:=outer) (s:=s) (H:=H) (H1:=H1) (as:=[e,T]) rfl has (by simp) I.stkFree (fun b hb=>u4Z _ hb) hnw I.base I.hok L hF;exact⟨e,cls,H1,rfl,I.os,I.bare,x1,x2,x3,q⟩
end
theorem Inv.afterX {X:Cx} {pins:List (Addr×Obj)} {σ:St} {H:Hp} {s s':Shared} {E:XK} {e:Value} (I:Inv X pins σ H s) (h:CXx X.prog X.w X.stack H s E e s') :
  ∃a cls H',e=.ref a/\Inv X pins σ H' s'/\Fly s.heap H' s'.heap a cls/\E cls (some a) H':=by
 obtain⟨a,cls,H',rfl,os,bare,un,hok,fl,q⟩:=h;exact⟨a,cls,H',rfl,I.call' (ch:=[]) os un hok bare (fun b z=>absurd z (by simp)),fl,q⟩
theorem Fly.old {h₀ h1 h:Heap} {H:Hp} {e:Addr} {cls:Value} (x:Fly h1 H h e cls) (k:∀b o,h₀.get? b=some o->∃o',h1.get? b=some o'):Fly h₀ H h e cls:=by
 have none:∀b,h1.get? b=none->h₀.get? b=none:=fun b z=>by
  cases q:h₀.get? b with
  | none=>rfl
  | some o=>obtain⟨o',e1⟩:=k b o q;rw[z] at e1;cases e1
 obtain⟨oe,vs,T,oT,ts,a0,he,hc,hd,h1,hTe,hT,hdT,h3,hsT,hHT⟩:=x.obj;exact⟨none _ x.new,x.free,oe,vs,T,oT,ts,a0,he,hc,hd,h1,hTe,hT,hdT,h3,none _ hsT,hHT⟩
theorem z1S {P:Program} {w:World} {K:u3q} {mg:Str->Option Value} {base:Heap} {N:List Str} {qual:Str} {scope:Scope} {f:Addr} {cd:Value} {A:Around} {outer:List Env} {s:Shared} {H:Hp} {E:XK} :
  qL (CXx P w) (z1G (CXx P w) P w K mg base N qual scope f cd A outer s H E) E:=fun pins σ H1 s1 e s' I h=>by
 obtain⟨a,cls,H',rfl,I',fl,q⟩:=Inv.afterX I h;exact z9Q I' (fl.old fun b o z=>I.base.there b o z u4B) q
abbrev VE:List Value:=[.type "ValueError",.type "Exception",.type "BaseException",.type "object"]
structure OX (K:u3q) (mg:Str->Option Value) (x:Str) (C:Addr) (bm:List Value):Prop where
 bound:mg x=some (.ref C)
 obj:∃N nm q bs hdct sn sub ab col dd k0 k1 k2 k3 k5,K.lookup C=some (excClassObj nm q C N bs bm hdct sn sub ab col dd k0 k1 k2 k3 k5 "ValueError.__new__")/\PySem.W.nsOkIn K N=true/\PySem.W.nsIn K N "__init__" = some none
 tail:PySem.W.tailIn K VE bm=true
theorem z4j {K:u3q} {h:Heap} {mg:Str->Option Value} {x:Str} {C N:Addr} {nm q:Str} {bs bm:List Value} {hdct:Bool} {sn:List Str} {sub:List Value} {ab:Bool} {col:Option Bool} {dd:Option Addr} {k0 k1 k2 k3 k5:Option Value}
  (X:K.In h) (G:h.Ns u4z mg) (a:PySem.W.nsIn K u4z x=some (some (.ref C))) (l:K.lookup C=some (excClassObj nm q C N bs bm hdct sn sub ab col dd k0 k1 k2 k3 k5 "ValueError.__new__"))
  (e:PySem.W.excIn K C VE "ValueError.__new__" = true):OX K mg x C bm:=by
 unfold PySem.W.excIn at e;rw[l] at e;simp only [u4a,beq_iff_eq,u6B] at e;obtain⟨⟨⟨⟨⟨_,_⟩,_⟩,ht⟩,hok⟩,hni⟩:=e;exact⟨PySem.W.mg_of X G a,⟨N,nm,q,bs,hdct,sn,sub,ab,col,dd,k0,k1,k2,k3,k5,l,hok,hni⟩,ht⟩
noncomputable def y3t (X:Cx) (E:XK):Prop:=∀(pins:List (Addr×Obj)) (σ:St) (H:Hp) (s:Shared) (e:Addr) (cls:Value) (vs:List Value) (h':Heap),Inv X pins σ H s->Heap.MadeExcOf s.heap h' e cls vs->E cls (some e) H->X.xe (.ref e) { s with heap:=h' }
theorem vz {P:Program} {w:World} {K:u3q} {mg:Str->Option Value} {base:Heap} {N:List Str} {qual:Str} {scope:Scope} {f:Addr} {cd:Value} {A:Around} {outer:List Env} {s:Shared} {H:Hp} {E:XK} :
  y3t (z1G (CXx P w) P w K mg base N qual scope f cd A outer s H E) E:=fun _ _ _ _ _ _ _ _ I hx q=>z5q I hx q
noncomputable def y5V (C:Addr) (E:XK) (t:TA):TS:=fun _ σ H=>t σ H fun vs H1=>vs.length<=1000/\∀a,H1 a=none->E (.ref C) (some a) H1
theorem jV {X:Cx} {x:Str} {C:Addr} {bm:List Value} {np cpos pos:Pos} {e₀:Expr} {rest:List Expr} {t:TA} {E:XK} (O:OX X.K X.mg x C bm) (hc:X.calm=true) (T:y3t X E) (ha:PA X (e₀::rest) t) (hg:Gl X x:=by rfl)
  (hdb:(x == ("__debug__" : Str))=false:=by decide) (he:u4W (e₀::rest) X.env=(false,eval e₀ X.env)::u4W rest X.env:=by rfl) (hpl:(backTo cpos (u4W rest X.env)).any (·.1)=false:=by rfl) :
  PS X (.Raise (some (.Call (.Name x np) (e₀::rest) [] cpos)) none pos) (y5V C E t):=by
 intro pins s σ H D I h;obtain⟨N,nm,q,bs,hdct,sn,sub,ab,col,dd,k0,k1,k2,k3,k5,lk,hok,hni⟩:=O.obj;have KB:X.K.In X.base:=I.mod.kin;refine wpAny_Raise_call_subT (C:=C) (nm:=nm) (q:=q) (N:=N) (bs:=bs) (bm:=bm) (hdct:=hdct) (sn:=sn) (sub:=sub) (ab:=ab) (col:=col) (dd:=dd) (k0:=k0) (k1:=k1) (k2:=k2) (k3:=k3) (k5:=k5)
  PySem.F.excBase_ValueError (mN:=X.base.nsMap N) ((PySem.W.tail_of_in I.kIn O.tail).hasType rfl) (I.ok.hd hc) (by rw[he];show (false || (backTo cpos (u4W rest X.env)).any (·.1))=false;rw[hpl];rfl) (PySem.W.nsMap_none_of_in KB hok hni) (kH I hg O.bound ⟨rfl,?_⟩ hdb)
 have h1:=ha cpos pins s σ H _ I h;rw[he] at h1 ⊢;refine Calls.evalArgs_plain (u5E h1 (fun us s₂ ⟨vs,H1,I1,r,hl,q⟩=>⟨rfl,?_,I1.kIn _ _ lk,?_,PySem.W.tail_of_in I1.kIn O.tail,fun h' e hm=>?_⟩) fun _ _ y=>y)
 ·rw[←r.length];exact Nat.le_of_lt (z9e hl)
 ·exact (Heap.Ns.of_isNs (PySem.W.isNs_of_in KB hok)).keeps I1.bk
 ·refine T pins σ H1 s₂ e _ _ h' I1 hm (q e ?_);cases z:H1 e with
  | none=>rfl
  | some o=>
   obtain⟨o',e1⟩:=ObjOk.there (I1.hok e o z);rw[hm.new] at e1;cases e1
theorem y3d {P:Program} {w:World} {CX:CXT} {K:u3q} {mg:Str->Option Value} {base:Heap} {N:List Str} {qual:Str} {scope:Scope} {f:Addr} {cd:Value} {A:Around} {outer:List Env} {s:Shared} {H:Hp} {E:XK} :
  PassesOwn (model P w) (z1G CX P w K mg base N qual scope f cd A outer s H E).A (z1G CX P w K mg base N qual scope f cd A outer s H E).env (z1G CX P w K mg base N qual scope f cd A outer s H E).xe:=
 fun _ _ h=>wpAny_leaving_again (SameStack.refl _) h
noncomputable def HasX (P:Program) (w:World) (K:u3q) (mg:Str->Option Value) (base:Heap) (k:Nat) (x:Str) (ps:List Str) (sp:Sp):Prop:=
 ∃f fd,FnOk P w K mg base (CXx P w) k f fd ps sp/\(∀us:List Value,us.length=ps.length->bindArgs fd ⟨us,[]⟩=pure (ps.zip us))/\u5L K (.ref f)=true/\mg x=some (.ref f)
theorem HasX.mono {P:Program} {w:World} {K:u3q} {mg:Str->Option Value} {base:Heap} {j k:Nat} {x:Str} {ps:List Str} {sp:Sp} (h:HasX P w K mg base j x ps sp) (hk:j<=k):HasX P w K mg base k x ps sp:=
 let ⟨f,fd,F,b⟩:=h
 ⟨f,fd,F.mono hk,b⟩
theorem TF.hasX {P:Program} {w:World} {K:u3q} {mg:Str->Option Value} {base:Heap} {x:Str} {st:Stmt} {N ps:List Str} {k:Nat} {sp:Sp} (T:TF K mg x st) (S:FnScope N ps (zK st))
  (hb:∀(kV doc pm:Value) (an:Option Addr) (cdv ct:Value) (us:List Value),us.length=ps.length->bindArgs (u6F x x (xz st) (yb st) (zK st) .none kV doc pm an cdv ct) ⟨us,[]⟩=pure (ps.zip us))
  (len:∀vs H Q E,sp vs H Q E->vs.length=ps.length)
  (hbody:∀(f:Addr) (cdv:Value) (A:Around) (outer:List Env) (s:Shared) (H:Hp) (vs:List V) (Q:VK) (E:XK),Room k (A.deeper (envOfC x (zK st) s.heap.objs.size f cdv))->sp vs H Q E->
   ∃t,PSs (z1G (CXx P w) P w K mg base N x (zK st) f cdv A outer s H E) (yb st) t/\t { nx:=fun _ H'=>Q .non H',rt:=Q } (j8 N vs) H):HasX P w K mg base (k+1) x ps sp:=by
 obtain⟨f,fd,F,m⟩:=T;obtain⟨oc,od,kV,doc,pm,an,cdv,ct,osl,rfl,lk,hcd⟩:=F.ex;exact⟨f,_,y3D lk hcd S len fun A outer s H vs Q E hr hsp=>hbody f cdv A outer s H vs Q E hr hsp,hb kV doc pm an cdv ct,F.kp,m⟩
theorem qE {X:Cx} {k:Nat} {x:Str} {ps:List Str} {sp:Sp} {p pos:Pos} {e:Expr} {es:List Expr} {t:TA} {E:XK} (h:HasX X.prog X.w X.K X.mg X.base k x ps sp) (hr:Room k X.A) (hx:qL (CXx X.prog X.w) X E) (ha:PA X (e::es) t) (hg:Gl X x:=by rfl)
  (hdb:(x == ("__debug__" : Str))=false:=by decide) (he:u4W (e::es) X.env=(false,eval e X.env)::u4W es X.env:=by rfl) (hpl:(backTo pos (u4W es X.env)).any (·.1)=false:=by rfl) :
  PE X (.Call (.Name x p) (e::es) [] pos) (z5u sp [] E t):=by
 obtain⟨f,fd,F,hb,hk,hm⟩:=h;exact z9z F hr hg hm hk (.all hb) .nil hx ha hdb he hpl
section
variable {X:Cx} {pins:List (Addr×Obj)} {σ:St} {H:Hp} {s:Shared}
noncomputable def Ap (X:Cx) (pins:List (Addr×Obj)) (b:Addr):Prop:=X.s₀.heap.get? b=none/\b≠X.env.locals/\(∀x c,X.env.cells.lookup x=some c->c≠b)/\b∉X.fs/\∀p∈X.pn++pins,p.1≠b
theorem Inv.ap (I:Inv X pins σ H s) (hx:X.ex=[]) {b:Addr} (hb:s.heap.get? b=none):Ap X pins b:=by
 have no:∀ {c:Addr},(∃o,s.heap.get? c=some o)->c≠b:=fun {c} ⟨o,e⟩ z=>by rw[z,hb] at e;cases e
 refine⟨?_,(no (let ⟨_,⟨o,_,_,e,_⟩,_⟩:=I.loc;⟨o,e⟩)).symm,fun x c e=>no (let ⟨_,o,q,_⟩:=I.cell x c e;⟨o,q⟩),fun z=>no (let ⟨_,o,e,_⟩:=I.funs.mem z;⟨o,e⟩) rfl,fun p hp=>no ⟨_,(I.pin p hp).1⟩⟩;cases q:X.s₀.heap.get? b with
 | none=>rfl
 | some o=>exact absurd rfl (no (I.base.there b o q (by rw[hx];simp)))
theorem Inv.exs {as:List Addr} (I:Inv X pins σ H s) (has:∀a∈as,Ap X pins a):Inv { X with ex:=X.ex++as } pins σ H s:=by
 have ok:=I.ok;refine⟨⟨ok.mod,ok.kind,ok.glob,ok.blt,ok.above,ok.inj,ok.has,ok.cab,ok.hd,ok.frames,ok.stk,fun b hb=>?_,ok.bs,ok.bsz,fun b o e hb=>?_,fun b hb=>?_,ok.funs,ok.frf⟩,I.os,I.bare,
  I.base.mono (fun _ h=>h) (fun b hb=>u5w _ hb),I.loc,I.cell,I.free,I.freeC,I.pin,I.hok,I.len⟩
 ·exact (u4H.mp hb).elim (ok.exf b) fun z=>⟨(has b z).2.1,(has b z).2.2.1⟩
 ·refine (u4H.mp hb).elim (ok.noex b o e) fun z=>?_;have:=(ok.bs b o e).1;rw[(has b z).1] at this;cases this
 ·exact (u4H.mp hb).elim (ok.exfs b) fun z=>(has b z).2.2.2.1
theorem Inv.unexs {as:List Addr} (I:Inv { X with ex:=X.ex++as } pins σ H s) (ok:X.Ok) (has:∀a∈as,X.s₀.heap.get? a=none):Inv X pins σ H s:=by
 have ne:∀b o,X.s₀.heap.get? b=some o->b∉X.ex->b∉X.ex++as:=fun b o e hx hb=>(u4H.mp hb).elim hx fun z=>by rw[has b z] at e;cases e
 exact⟨ok,I.os,I.bare,⟨fun b o e n hb hx=>I.base.keep b o e n hb (ne b o e hx),fun b o e n hb hx=>I.base.slot b o e n hb (ne b o e hx),fun b o e n hx=>I.base.free b o e n (ne b o e hx),fun b o e hx=>I.base.there b o e (ne b o e hx),
  I.base.tups,I.base.frzs,I.base.tbls⟩,I.loc,I.cell,I.free,I.freeC,I.pin,I.hok,I.len⟩
theorem Inv.fly {as:List Addr} {h':Heap} (I:Inv X pins σ H s) (has:∀a∈as,Ap X pins a/\H a=none)
  (keep:∀b o,b∉frs X.stack++as->s.heap.get? b=some o->h'.get? b=some o) (slot:∀b o,b∈frs X.stack->s.heap.get? b=some o->∃sl,h'.get? b=some { o with slots:=sl }):Inv X pins σ H { s with heap:=h' }:=by
 have u:Un (frs X.stack) as H H s.heap h':=⟨fun b o q _ hb hx=>keep b o (fun z=>(u4H.mp z).elim hb hx) q,fun b o q _ hb _=>slot b o hb q,fun _ _ _ n _=>n,fun b o q hx=>by
   by_cases hb:b∈frs X.stack
   ·obtain⟨sl,e⟩:=slot b o hb q;exact⟨_,e⟩
   ·exact⟨o,keep b o (fun z=>(u4H.mp z).elim hb hx) q⟩,fun _ _ e=>e,fun _ _ _ e=>e,fun _ ps e=>⟨#[],by rw[e];simp⟩⟩
 have hok:HOk X.prog X.w H h':=I.hok.but _ (fun a z=>(u4H.mp z).elim (I.stkFree a) fun y=>(has a y).2) keep;have J:=(I.exs fun a z=>(has a z).1).call (g':=s.gens) (t':=s.toks) (d':=s.drawn) (ch:=as) u hok I.bare fun b hb=>⟨.inl (u4U _ hb),(has b hb).1.2.1,(has b hb).1.2.2.1,(has b hb).1.2.2.2.2⟩
 exact J.unexs I.ok fun a z=>(has a z).1.1
noncomputable def FlyAt (X:Cx) (pins:List (Addr×Obj)) (H:Hp) (h:Heap) (a:Addr) (cls:Value):Prop:=
 ∃oe vs T oT ts a0,h.get? a=some oe/\(oe.cls=cls/\vs[0]?=some a0)/\oe.data=.fields vs/\vs[1]?=some (.ref T)/\T≠a/\h.get? T=some oT/\oT.data=.fields ts/\ts[3]?=some .none/\∀b∈[a,T],Ap X pins b/\H b=none
noncomputable def XE (X:Cx) (pins:List (Addr×Obj)) (σ:St) (E:XK) (e:Value) (s':Shared):Prop:=∃a cls H',e=.ref a/\Inv X pins σ H' s'/\FlyAt X pins H' s'.heap a cls/\E cls (some a) H'
theorem Inv.afterXE {s':Shared} {E:XK} {e:Value} (hx:X.ex=[]) (I:Inv X pins σ H s) (h:CXx X.prog X.w X.stack H s E e s'):XE X pins σ E e s':=by
 obtain⟨a,cls,H',rfl,I',fl,q⟩:=Inv.afterX I h;obtain⟨oe,vs,T,oT,ts,a0,he,hc,hd,hv1,hTe,hT,hdT,h3,hsT,hHT⟩:=fl.obj;refine⟨a,cls,H',rfl,I',⟨oe,vs,T,oT,ts,a0,he,hc,hd,hv1,hTe,hT,hdT,h3,fun b hb=>?_⟩,q⟩;rcases u3w.mp hb with rfl|hb
 ·exact⟨I.ap hx fl.new,fl.free⟩
 ·rw[u4O.mp hb];exact⟨I.ap hx hsT,hHT⟩
theorem FlyAt.held {a T:Addr} {cls a0:Value} {h5:Heap} (hx:X.ex=[]) (I:Inv X pins σ H s) (has:∀b∈[a,T],Ap X pins b/\H b=none)
  (hfl:Heap.FlyingW (u5s s.heap (frs X.stack++[a,T])) X.stack a cls a0 h5) (sm:s.heap.UpToSlots h5):Inv X pins σ H { s with heap:=h5 }/\FlyAt X pins H h5 a cls:=by
 have keep:∀b o,b∉frs X.stack++[a,T]->s.heap.get? b=some o->h5.get? b=some o:=fun b o hb q=>hfl.1 b o (PySem.W.hideAll_get _ q hb);have slot:∀b o,b∈frs X.stack->s.heap.get? b=some o->∃sl,h5.get? b=some { o with slots:=sl }:=fun b o hb q=>by
  obtain⟨_,o',ho',hn⟩:=I.stack.mem hb;rw[q] at ho';cases ho';exact sm b o q hn
 have I':=I.fly (as:=[a,T]) has keep slot;obtain⟨_,_,k2,oe,vs,T',oT,ts,he,hc,hd,hv1,hnT,hTe,hT,hdT,h3⟩:=hfl;have hTf:T'∉frs X.stack:=fun z=>by
  obtain⟨_,o,ho,hn⟩:=k2.mem z;rw[hT] at ho;cases ho;exact hn _ hdT
 have hT':Ap X pins T'/\H T'=none:=by
  cases q:s.heap.get? T' with
  | none=>
   refine⟨I.ap hx q,?_⟩;cases z:H T' with
   | none=>rfl
   | some o=>
    obtain⟨o',e⟩:=ObjOk.there (I.hok T' o z);rw[q] at e;cases e
  | some o=>
   refine has T' ?_;by_cases z:T'∈frs X.stack++[a,T]
   ·exact (u4H.mp z).elim (fun y=>absurd y hTf) id
   ·have:=PySem.W.hideAll_get (h:=s.heap) _ q z;rw[hnT] at this;cases this
 refine⟨I',oe,vs,T',oT,ts,a0,he,hc,hd,hv1,hTe,hT,hdT,h3,fun b hb=>?_⟩;rcases u3w.mp hb with rfl|hb
 ·exact has _ (by simp)
 ·rw[u4O.mp hb];exact hT'
theorem y7k {M:Model} {a:Addr} {cls:Value} {Q:Shared->Prop} {A':Around} {E1 E2:Value->Shared->Prop} (hx:X.ex=[]) (hst:X.stack=X.env::X.outer) (hf:X.env.frame=some X.env.locals) (I:Inv X pins σ H s) (fl:FlyAt X pins H s.heap a cls)
  (h:∀h5,Inv X pins σ H { s with heap:=h5 }->FlyAt X pins H h5 a cls->Q { s with heap:=h5 }) :
  wpAny M X.A (noteFrame (.ref a) X.env) (fun _ s2=>wpAny M A' (setFlight (.ref a) none) (fun _ s3=>Q s3) E1 s2) E2 s:=by
 obtain⟨oe,vs,T,oT,ts,a0,he,hc,hd,hv1,hTe,hT,hdT,h3,has⟩:=fl;have hFB:s.heap.FunFrames (u5s s.heap (frs X.stack++[a,T])) X.stack:=PySem.W.funFrames_hide I.stack fun env z b hb=>u5w _ (u5g.mpr ⟨env,z,hb⟩);have hfl:Heap.FlyingW (u5s s.heap (frs X.stack++[a,T])) X.stack a cls a0 s.heap:=
  ⟨fun b o z=>PySem.W.of_hideAll _ z,u5e _ (by simp),hFB,oe,vs,T,oT,ts,he,hc,hd,hv1,u5e _ (by simp),hTe,hT,hdT,h3⟩
 have hfr:=I.ok.frames;refine wpAny_looks_onW (base:=u5s s.heap (frs X.stack++[a,T])) (outer:=X.outer) (cls:=cls) (a0:=a0) (by rw[hfr,hst]) hf (by rw[←hst];exact hfl) fun h4 hheld sm4=>?_;refine wpAny_landsW hheld fun h5 hfl5 sm5=>?_;rw[←hst] at hfl5;obtain⟨I5,F5⟩:=FlyAt.held hx I has hfl5 (sm4.trans sm5);exact h h5 I5 F5
theorem y5l {M:Model} {a:Addr} {cls:Value} {Q:Unit->Shared->Prop} {A':Around} {E1:Value->Shared->Prop} (hx:X.ex=[]) (I:Inv X pins σ H s) (fl:FlyAt X pins H s.heap a cls)
  (h:∀h5,Inv X pins σ H { s with heap:=h5 }->FlyAt X pins H h5 a cls->Q () { s with heap:=h5 }):wpAny M A' (setFlight (.ref a) none) Q E1 s:=by
 obtain⟨oe,vs,T,oT,ts,a0,he,hc,hd,hv1,hTe,hT,hdT,h3,has⟩:=fl;have hFB:s.heap.FunFrames (u5s s.heap (frs X.stack++[a,T])) X.stack:=PySem.W.funFrames_hide I.stack fun env z b hb=>u5w _ (u5g.mpr ⟨env,z,hb⟩);have hfl:Heap.FlyingW (u5s s.heap (frs X.stack++[a,T])) X.stack a cls a0 s.heap:=
  ⟨fun b o z=>PySem.W.of_hideAll _ z,u5e _ (by simp),hFB,oe,vs,T,oT,ts,he,hc,hd,hv1,u5e _ (by simp),hTe,hT,hdT,h3⟩
 refine lands_againW hfl fun h5 hfl5 sm5=>?_;obtain⟨I5,F5⟩:=FlyAt.held hx I has hfl5 sm5;exact h h5 I5 F5
noncomputable def y1d (a:Addr) (cls:Value):HO:=.ext fun h=>∃o,h.get? a=some o/\o.cls=cls
theorem Inv.track {a:Addr} {cls:Value} (I:Inv X pins σ H s) (fl:FlyAt X pins H s.heap a cls):Inv X pins σ (upd H a (y1d a cls)) s:=by
 obtain⟨oe,vs,T,oT,ts,a0,he,⟨hc,_⟩,_,_,_,_,_,_,has⟩:=fl;obtain⟨ap,hn⟩:=has a (by simp);have u:Un (frs X.stack) [a] H (upd H a (y1d a cls)) s.heap s.heap:=⟨fun b o q _ _ _=>q,fun b o q _ _ _=>⟨o.slots,q⟩,fun b o _ n hb=>by rw[zb (fun z=>hb (by simp [z]))];exact n,fun b o q _=>⟨o,q⟩,
  fun b xs e=>by rw[zb (zW e hn)];exact e,fun b o x e=>by rw[zb (zW e hn)];exact e,fun b ps e=>⟨#[],by rw[zb (zW e hn),e];simp⟩⟩
 have hok:HOk X.prog X.w (upd H a (y1d a cls)) s.heap:=fun b o e=>by
  by_cases z:b=a
  ·subst z;rw[zH] at e;cases e;exact⟨⟨oe,he,hc⟩,⟨oe,he⟩,fun h1 h2 ⟨o,e1,c1⟩ k=>⟨o,k o e1,c1⟩⟩
  ·rw[zb z] at e;exact (I.hok b o e).stay (fun c v _ q=>q) (fun c q=>by
    rw[zb (zW q hn)];exact q) fun c xs q=>by rw[zb (zW q hn)];exact q
 have J:=(I.exs (as:=[a]) fun b hb=>by rw[u4O.mp hb];exact ap).call (g':=s.gens) (t':=s.toks) (d':=s.drawn) (ch:=[a]) u hok I.bare fun b hb=>by
  rw[u4O.mp hb];exact⟨.inl (u4U _ (by simp)),ap.2.1,ap.2.2.1,ap.2.2.2.2⟩
 exact J.unexs I.ok fun b hb=>by rw[u4O.mp hb];exact ap.1
end
theorem z0k {es:Array DictEntry} {i:Nat} {name y:Str} (hi:es.findIdx? (·.key.isStr name)=some i) (hy:y≠name):nsFind (es.eraseIdxIfInBounds i) y=nsFind es y:=by
 obtain⟨l⟩:=es;have h1:=Array.findIdx?_eq_some_iff_getElem.mp hi;obtain⟨hlt,hp,_⟩:=h1;unfold nsFind findBy;have e:(({ toList:=l }:Array DictEntry).eraseIdxIfInBounds i) = { toList:=l.eraseIdx i }:=by
  unfold Array.eraseIdxIfInBounds;rw[dif_pos hlt];simp
 rw[e,←Array.find?_toList,←Array.find?_toList,kt];intro a ha;have hlt':i<l.length:=by simpa using hlt
 rw[u4A hlt'] at ha;cases ha;have hp':l[i].key.isStr name=true:=by simpa using hp
 cases q:l[i].key.isStr y with
 | false=>exact q
 | true=>
  exfalso;revert hp' q;cases l[i].key <;> simp [Value.isStr];intro a b;exact hy (b.symm.trans a)
section
variable {M:Model} {A:Around} {E:Value->Shared->Prop} {s:Shared}
theorem z6G {a:Addr} {m:Str->Option Value} {name:Str} {Q:Bool->Shared->Prop} (hn:s.heap.Ns a m)
  (hQ:∀h' m',h'.Ns a m'->(∀y,y≠name->m' y=m y)->u5x a s.heap h'->Q (m name).isSome { s with heap:=h' }):wpAny M A (nsDel a name) Q E s:=by
 obtain⟨o,es,ep,ho,hd,hk,hm⟩:=id hn;have hany:es.any (·.refKey)=false:=by
  rw[Array.any_eq_false'];intro e he;obtain⟨n,t,h⟩:=hk e he;simp [DictEntry.refKey,h]
 have hsome:(m name).isSome=es.any (·.key.isStr name):=by
  rw[←hm name];simp only [nsFind,findBy,Option.isSome_map];rw[u6D];simp only [Array.find?_isSome,Array.any_eq_true];constructor
  ·rintro⟨x,hx,hp⟩;obtain⟨i,hi,rfl⟩:=Array.mem_iff_getElem.mp hx;exact⟨i,hi,hp⟩
  ·rintro⟨i,hi,hp⟩;exact⟨_,Array.getElem_mem hi,hp⟩
 have hhas:nsHas name o=pure (es.any (·.key.isStr name)):=by
  rw[nsHas_eq];unfold nsHasByArray;rw[hd];show (if (es.any fun x=>x.key.isStr name)=true then _ else _)=_;generalize (es.any fun x=>x.key.isStr name)=b;cases b <;> simp [hany]
 unfold nsDel;refine u3r (wpAny_loadPart ho ?_);rw[hhas];refine u3r (u3u ?_);rw[←hsome];cases hmn:(m name).isSome
 ·have:=hQ s.heap m hn (fun _ _=>rfl) (.refl ..);rw[hmn] at this;exact u3u this
 ·refine u3r (wpAny_updatePart ho (u3u ?_));have key:∃m',(s.heap.update a (Obj.dropName name)).Ns a m'/\∀y,y≠name->m' y=m y:=by
   obtain⟨cl,d,dt,sl⟩:=o;subst hd;cases hi:es.findIdx? (·.key.isStr name) with
   | some i=>exact⟨_,⟨_,_,ep+1,u4x _ ho (by simp only [Obj.dropName_eq,Obj.dropNameByArray,hi] <;> rfl),(by simp only [Obj.dropName_eq,Obj.dropNameByArray,hi] <;> rfl),hk.erase i,fun _=>rfl⟩,fun y hy=>(z0k hi hy).trans (hm y)⟩
   | none=>exact⟨_,⟨_,_,ep,u4x _ ho (by simp only [Obj.dropName_eq,Obj.dropNameByArray,hi] <;> rfl),(by simp only [Obj.dropName_eq,Obj.dropNameByArray,hi] <;> rfl),hk,fun _=>rfl⟩,fun y _=>hm y⟩
  obtain⟨m',hm',hy⟩:=key;have:=hQ _ m' hm' hy (u5M ..);rw[hmn] at this;exact this
end
theorem kh {X:Cx} {pins:List (Addr×Obj)} {σ:St} {H:Hp} {s:Shared} {A:Around} {E:Value->Shared->Prop} {i:Nat} {n:Str} {pos:Pos} {Q:Unit->Shared->Prop} (I:Inv X pins σ H s) (hN:X.N.Nodup) (hi:X.N[i]?=some n) (hl:X.env.scope.names.lookup n=some .local)
  (h:∀s',Inv X pins (σ.set i none) H s'->Q () s'):wpAny (model X.prog X.w) A (do bindName X.env n .none;unbindBehindTheSuite X.env n pos) Q E s:=by
 have hp:(X.env.scope.kind == .class || (X.env.scope.kind == .module && X.env.locals != X.env.globals))=false:=by rw[I.ok.kind];rfl
 have hkl:X.env.kindOf n=some .local:=hl;refine u3r (wpAny_bindName (qO (v:=.non) (u:=.none) I hN hi (.inl hl) rfl (fun s1 I1=>?_) (.inr hl)));unfold unbindBehindTheSuite;refine wpAny_onRaise ?_;unfold unbindName;refine u3r (wpAny_point (u3r ?_));unfold deleteName;simp only [hkl,hp];rw[if_neg (by decide)];obtain⟨m,hn,hlk⟩:=id I1.loc;refine u3r (z6G hn fun h₂ m₂ hn₂ hy hs₂=>?_);have hmn:(m n).isSome=true:=by
  have hiσ:i<σ.length:=by rw[I.len];exact (u4K.mp hi).1
  obtain⟨u,_,l⟩:=hlk i n .non hi (by rw[List.getElem?_set_self hiσ]) (.inl hl);rcases l with⟨_,e⟩|⟨k,_⟩
  ·rw[e];rfl
  ·rw[hkl] at k;rcases k with k|k <;> cases k
 rw[hmn];simp only [if_true,Bool.not_true,u5h,if_false];refine u3u (wpAny_point (h _ ?_));obtain⟨hp1,g1,d1,t1,os1⟩:=s1;have hok:HOk X.prog X.w H h₂:=I1.hok.but [X.env.locals] (fun a ha=>by rw[u4O.mp ha];exact I1.free) fun b o hb q=>(hs₂.2 b (fun z=>hb (by simp [z]))).trans q;have oth:∀b,b≠X.env.locals->h₂.get? b=hp1.get? b:=fun b hb=>hs₂.2 b hb;have neL:∀b o,X.s₀.heap.get? b=some o->b≠X.env.locals:=fun b o e=>u4c (u4X (u4D e) I1.ok.above);have cellK:∀x c,X.env.cells.lookup x=some c->∀v,hp1.IsCell c v->h₂.IsCell c v:=fun x c e v ⟨o,ho,hd⟩=>⟨o,(oth c (I1.cne x c e)).trans ho,hd⟩
 refine⟨I1.ok,I1.os,I1.bare,⟨fun b o e n hb hx=>(oth b (neL b o e)).trans (I1.base.keep b o e n hb hx),fun b o e n hb hx=>?_,I1.base.free,fun b o e hx=>?_,I1.base.tups,I1.base.frzs,I1.base.tbls⟩,⟨m₂,hn₂,fun j y v e1 e2 e3=>?_⟩,
  fun x c e=>?_,I1.free,I1.freeC,fun p hp=>?_,hok,by rw[List.length_set];exact I.len⟩
 ·obtain⟨sl,q⟩:=I1.base.slot b o e n hb hx;exact⟨sl,(oth b (neL b o e)).trans q⟩
 ·obtain⟨o',q⟩:=I1.base.there b o e hx;exact⟨o',(oth b (neL b o e)).trans q⟩
 ·have hji:j≠i:=fun z=>by
   subst z;rw[List.getElem?_set] at e2;split at e2
   ·split at e2 <;> cases e2
   ·rename_i z;exact z rfl
  have hyn:y≠n:=fun z=>hji (z3H hN e1 (z▸hi));obtain⟨u,r,l⟩:=hlk j y v e1 (by rw[List.getElem?_set_ne (Ne.symm hji)] at e2 ⊢;exact e2) e3;refine⟨u,r,?_⟩;rcases l with⟨k,e⟩|⟨k,c,e,z⟩
  ·exact .inl ⟨k,(hy y hyn).trans e⟩
  ·exact .inr ⟨k,c,e,cellK y c e _ z⟩
 ·obtain⟨v,z⟩:=I1.cell x c e;exact⟨v,cellK x c e v z⟩
 ·obtain⟨e,n',ne,nf,d⟩:=I1.pin p hp;exact⟨(oth p.1 ne).trans e,n',ne,nf,d⟩
noncomputable abbrev Cx.suite (X:Cx) (a:Addr):Cx:={ X with A:=X.A.mark (some (.ref a)),calm:=false,xe:=fun _ _=>False }
section
variable {X:Cx} {pins:List (Addr×Obj)} {σ:St} {H:Hp} {s:Shared} {a:Addr}
theorem Inv.suite (I:Inv X pins σ H s) (a:Addr):Inv (X.suite a) pins σ H s:=
 have ok:=I.ok
 ⟨⟨ok.mod,ok.kind,ok.glob,ok.blt,ok.above,ok.inj,ok.has,ok.cab,fun z=>(u4i z).elim,ok.frames,ok.stk,ok.exf,ok.bs,ok.bsz,ok.noex,ok.exfs,ok.funs,ok.frf⟩,I.os,I.bare,I.base,I.loc,I.cell,I.free,I.freeC,I.pin,I.hok,I.len⟩
theorem Inv.unsuite (I:Inv (X.suite a) pins σ H s) (ok:X.Ok):Inv X pins σ H s:=⟨ok,I.os,I.bare,I.base,I.loc,I.cell,I.free,I.freeC,I.pin,I.hok,I.len⟩
theorem SP.unsuite {D:Ends} {f:Flow} (h:SP (X.suite a) pins D f s) (ok:X.Ok):SP X pins D f s:=by
 cases f with
 | next=>obtain⟨σ',H',I,q⟩:=h;exact⟨σ',H',I.unsuite ok,q⟩
 | brk=>obtain⟨σ',H',I,q⟩:=h;exact⟨σ',H',I.unsuite ok,q⟩
 | cont=>obtain⟨σ',H',I,q⟩:=h;exact⟨σ',H',I.unsuite ok,q⟩
 | ret u=>obtain⟨v,σ',H',I,r,q⟩:=h;exact⟨v,σ',H',I.unsuite ok,r,q⟩
end
section
variable {M:Model} {A:Around} {E:Value->Shared->Prop}
variable {nm q nm' q':Str} {C N C' N':Addr} {bs bm bs' bm':List Value} {hdct hdct':Bool} {sn sn':List Str} {sub sub':List Value} {ab ab':Bool} {col col':Option Bool} {dd dd':Option Addr} {k0 k1 k2 k3 k5 l0 l1 l2 l3 l5:Option Value} {newId newId':String}
theorem z1Y {h:Heap} {g:Array GenState} {d:Drawn} {t:Nat} {os:OsState} {e:Addr} {oe:Obj} {Q:Bool->Shared->Prop}
  (hC:h.get? C=some (excClassObj nm q C N bs bm hdct sn sub ab col dd k0 k1 k2 k3 k5 newId)) (hC':h.get? C'=some (excClassObj nm' q' C' N' bs' bm' hdct' sn' sub' ab' col' dd' l0 l1 l2 l3 l5 newId'))
  (he:h.get? e=some oe) (hcls:oe.cls=.ref C) (hbase:bm'.contains (.type "BaseException")=true)
  (hq:Q ((u4J C::bm).contains (.ref C')) ⟨h,g,d,t,os⟩):wpAny M A (excMatches (.ref e) (.ref C')) Q E ⟨h,g,d,t,os⟩:=by
 have hcB:(u4J C'::bm').contains (.type "BaseException")=true:=by rw[List.contains_cons,hbase,Bool.or_true]
 have f:=tc_notTuple;unfold excMatches
 repeat (first|(with_reducible refine wpAny_loadPart_at he ?_;rw[hcls])|with_reducible refine wpAny_loadPart_at hC' ?_|(with_reducible refine wpAny_isSubtype_exc hC' ?_;rw[hcB])|with_reducible refine wpAny_isSubtype_exc hC ?_|wp_step)
 cases hb:(u4J C::bm).contains (.ref C') <;> (rw[hb] at hq;wp_walk;exact hq)
end
noncomputable def PM (X:Cx) (t:Expr) (cls:Value) (tm:TT):Prop:=
 ∀(pins:List (Addr×Obj)) (s:Shared) (σ:St) (H:Hp) (a:Addr) (oa:Obj) (Q:Bool->Hp->Prop),Inv X pins σ H s->(a,oa)∈pins->oa.cls=cls->tm σ H Q->
  wpAny (model X.prog X.w) X.A (eval t X.env) (fun c s1=>wpAny (model X.prog X.w) X.A (excMatches (.ref a) c) (TP X pins σ Q) (fun _ _=>False) s1) (fun _ _=>False) s
noncomputable def y1m (b:Bool):TT:=fun _ H Q=>Q b H
theorem z7Y {X:Cx} {x x':Str} {C C':Addr} {bm bm':List Value} {p:Pos} (O:OX X.K X.mg x C bm) (O':OX X.K X.mg x' C' bm') (hg:Gl X x':=by rfl) (hdb:(x' == ("__debug__" : Str))=false:=by decide) :
  PM X (.Name x' p) (.ref C) (y1m ((u4J C::bm).contains (.ref C'))):=by
 intro pins s σ H a oa Q I hp hc h;obtain⟨N,nm,q,bs,hdct,sn,sub,ab,col,dd,k0,k1,k2,k3,k5,lk,_,_⟩:=O.obj;obtain⟨N',nm',q',bs',hdct',sn',sub',ab',col',dd',l0,l1,l2,l3,l5,lk',_,_⟩:=O'.obj;refine kH I hg O'.bound ?_ hdb;obtain⟨hp',g,d,t,os⟩:=s;exact z1Y (I.kIn _ _ lk) (I.kIn _ _ lk') (I.pin _ (u4U _ hp)).1 hc ((PySem.W.tail_of_in I.kIn O'.tail).hasType rfl) ⟨H,I,h⟩
noncomputable def PH (X:Cx) (hs:List ExceptHandler) (t:Addr->Value->TS):Prop:=
 ∀(pins:List (Addr×Obj)) (s:Shared) (σ:St) (H:Hp) (D:Ends) (a:Addr) (cls:Value),Inv X pins σ H s->FlyAt X pins H s.heap a cls->t a cls D σ H->
  wpAny (model X.prog X.w) X.A (handleBy (.ref a) X.env hs) (SP X pins D) (fun _ _=>False) s
theorem Inv.pinX {X:Cx} {pins:List (Addr×Obj)} {σ:St} {H:Hp} {s:Shared} {a:Addr} {cls:Value} (I:Inv X pins σ H s) (fl:FlyAt X pins H s.heap a cls) :
  ∃oa T oT,Inv X ([(a,oa),(T,oT)]++pins) σ H s/\oa.cls=cls/\∀ {H':Hp} {s':Shared},Inv X ([(a,oa),(T,oT)]++pins) σ H' s'->FlyAt X pins H' s'.heap a cls:=by
 obtain⟨oe,vs,T,oT,ts,a0,he,hc,hd,hv1,hTe,hT,hdT,h3,has⟩:=fl;refine⟨oe,T,oT,I.pins_of fun p hp=>?_,hc.1,fun {H' s'} J=>?_⟩
 ·rcases u4H.mp hp with z|z
  ·rcases u3w.mp z with rfl|z
   ·exact⟨he,(has a (by simp)).2,(has a (by simp)).1.2.1,(has a (by simp)).1.2.2.2.1,fun v e=>by rw[hd] at e;cases e⟩
   ·rw[u4O.mp z];exact⟨hT,(has T (by simp)).2,(has T (by simp)).1.2.1,(has T (by simp)).1.2.2.2.1,fun v e=>by rw[hdT] at e;cases e⟩
  ·exact I.pin p (u4U _ z)
 ·have pa:=J.pin (a,oe) (u4U _ (by simp));have pT:=J.pin (T,oT) (u4U _ (by simp));refine⟨oe,vs,T,oT,ts,a0,pa.1,hc,hd,hv1,hTe,pT.1,hdT,h3,fun b hb=>?_⟩;rcases u3w.mp hb with rfl|hb
  ·exact⟨(has _ (by simp)).1,pa.2.1⟩
  ·rw[u4O.mp hb];exact⟨(has T (by simp)).1,pT.2.1⟩
theorem Inv.unpin {X:Cx} {pins more:List (Addr×Obj)} {σ:St} {H:Hp} {s:Shared} (I:Inv X (more++pins) σ H s):Inv X pins σ H s:=I.pins_of fun p hp=>I.pin p (u4U _ (u4U _ hp))
noncomputable def z9X (cls0:Value) (tm:TT) (take rest:Addr->Value->TS):Addr->Value->TS:=fun a cls D σ H=>cls=cls0/\tm σ H fun b H'=>if b=true then take a cls D σ H' else rest a cls D σ H'
noncomputable def y3S (tb:TS):Addr->Value->TS:=fun a cls D σ H=>tb D σ (upd H a (y1d a cls))
noncomputable def z2M (i:Nat) (tb:TS):Addr->Value->TS:=fun a cls D σ H=>
 tb { nx:=fun σ' H'=>D.nx (σ'.set i none) H',rt:=D.rt,bk:=fun σ' H'=>D.bk (σ'.set i none) H',ct:=fun σ' H'=>D.ct (σ'.set i none) H' } (σ.set i (some (.ref a))) (upd H a (y1d a cls))
section
variable {X:Cx} {t:Expr} {b₀:Stmt} {body:List Stmt} {pos:Pos} {rest:List ExceptHandler} {cls0:Value} {tm:TT} {tb:TS} {tr:Addr->Value->TS}
theorem z7Z:PH X [] fun _ _ _ _ _=>False:=fun _ _ _ _ _ _ _ _ _ h=>h.elim
theorem y4R (hx:X.ex=[]) (hm:∀a,PM (X.suite a) t cls0 tm) (hb:∀a,PSs (X.suite a) (b₀::body) tb) (hr:PH X rest tr):PH X (.ExceptHandler (some t) none (b₀::body) pos::rest) (z9X cls0 tm (y3S tb) tr):=by
 intro pins s σ H D a cls I fl ⟨hcl,h⟩;subst hcl;refine wpAny_handleBy_cons (codeAny_handlers_test ?_) (by intro q;cases q);obtain⟨oa,T,oT,J,hc,back⟩:=I.pinX fl;have h1:=hm a _ s σ H a oa _ (J.suite a) (by simp) hc h;refine u5E h1 (fun c s1 h2=>u5E h2 (fun b s2 ⟨H2,J2,q⟩=>?_) fun _ _ z=>z.elim) fun _ _ z=>z.elim;have J3:=J2.unsuite I.ok;cases b with
 | true=>
  refine codeAny_handlers_suite (y5l hx J3.unpin (back J3) fun h5 I5 F5=>?_);exact u5E (hb a pins _ σ _ D ((I5.track F5).suite a) q) (fun f s3 hf=>hf.unsuite I.ok) fun _ _ z=>z.elim
 | false=>exact hr pins s2 σ H2 D a cls J3.unpin (back J3) q
theorem wT {i:Nat} {n:Str} (hx:X.ex=[]) (hN:X.N.Nodup) (hm:∀a,PM (X.suite a) t cls0 tm) (hb:∀a,PSs (X.suite a) (b₀::body) tb) (hr:PH X rest tr) (hi:X.N[i]?=some n:=by rfl) (hl:X.env.scope.names.lookup n=some .local:=by rfl) :
  PH X (.ExceptHandler (some t) (some n) (b₀::body) pos::rest) (z9X cls0 tm (z2M i tb) tr):=by
 intro pins s σ H D a cls I fl ⟨hcl,h⟩;subst hcl;refine wpAny_handleBy_cons (codeAny_handlers_test ?_) (by intro q;cases q);obtain⟨oa,T,oT,J,hc,back⟩:=I.pinX fl;have h1:=hm a _ s σ H a oa _ (J.suite a) (by simp) hc h;refine u5E h1 (fun c s1 h2=>u5E h2 (fun b s2 ⟨H2,J2,q⟩=>?_) fun _ _ z=>z.elim) fun _ _ z=>z.elim;have J3:=J2.unsuite I.ok;cases b with
 | true=>
  refine codeAny_handlers_suite_as (y5l hx J3.unpin (back J3) fun h5 I5 F5=>?_);refine qO (v:=.ref a) (I5.track F5) hN hi (.inl hl) rfl (fun s6 I6=>?_) (.inr hl);refine u5E (hb a pins s6 _ _ _ (I6.suite a) q) (fun f s7 hf=>?_) fun _ _ z=>z.elim;have hf:=hf.unsuite I.ok;cases f with
  | next=>obtain⟨σ',H',I7,q7⟩:=hf;exact kh I7 hN hi hl fun s8 I8=>⟨_,H',I8,q7⟩
  | brk=>obtain⟨σ',H',I7,q7⟩:=hf;exact kh I7 hN hi hl fun s8 I8=>⟨_,H',I8,q7⟩
  | cont=>obtain⟨σ',H',I7,q7⟩:=hf;exact kh I7 hN hi hl fun s8 I8=>⟨_,H',I8,q7⟩
  | ret u=>obtain⟨v,σ',H',I7,r,q7⟩:=hf;exact kh I7 hN hi hl fun s8 I8=>⟨v,_,H',I8,r,q7⟩
 | false=>exact hr pins s2 σ H2 D a cls J3.unpin (back J3) q
end
noncomputable def PXe (X:Cx) (e:Expr) (t:XK->TE):Prop:=∀(pins:List (Addr×Obj)) (s:Shared) (σ:St) (H:Hp) (Q:VK) (E:XK),Inv X pins σ H s->t E σ H Q->wpAny (model X.prog X.w) X.A (eval e X.env) (EP X pins σ Q) (XE X pins σ E) s
noncomputable def PXs (X:Cx) (st:List Stmt) (t:XK->TS):Prop:=∀(pins:List (Addr×Obj)) (s:Shared) (σ:St) (H:Hp) (D:Ends) (E:XK),Inv X pins σ H s->t E D σ H->wpAny (model X.prog X.w) X.A (execs st X.env) (SP X pins D) (XE X pins σ E) s
section
variable {X:Cx} {e:Expr} {es:List Expr} {pos p:Pos} {t:TA}
theorem z2x {k:Nat} {x:Str} {ps:List Str} {sp:Sp} (hx:X.ex=[]) (h:HasX X.prog X.w X.K X.mg X.base k x ps sp) (hr:Room k X.A) (ha:PA X.nox (e::es) t) (hg:Gl X x:=by rfl)
  (hdb:(x == ("__debug__" : Str))=false:=by decide) (he:u4W (e::es) X.env=(false,eval e X.env)::u4W es X.env:=by rfl) (hpl:(backTo pos (u4W es X.env)).any (·.1)=false:=by rfl) :
  PXe X (.Call (.Name x p) (e::es) [] pos) fun E=>z5u sp [] E t:=by
 intro pins s σ H Q E I hw;obtain⟨f,fd,F,hb,hk,hm⟩:=h;refine u6M (kH I hg hm ?_ hdb);refine PySem.W.callWith_K (h₀:=X.base) I.ok.mod.kin hk (u5E (ha pos pins s σ H _ (I.wish _) hw) (fun us s1 ⟨vs,H1,I1,r,q⟩=>⟨I1.kIn,?_⟩) fun _ _ z=>z.elim) he hpl;have J:=I1.unwish;have q:sp vs H1 Q E:=by have z:sp (vs++[]) H1 Q E:=q;rwa [u5l] at z
 have hl:us.length=ps.length:=by rw[←r.length];exact F.len _ _ _ _ q
 refine wpAny_call (codeAny_mono (F.run X.A X.stack s1 H1 ⟨us,[]⟩ us vs Q E hr J.env0 (.of_eq (hb us hl)) r q) fun r s' hq=>?_);cases r with
 | error e=>exact J.afterXE hx hq
 | ok fl=>
  cases fl with
  | ret u=>exact J.after hq
  | next=>exact u5c hq
  | brk=>exact u5c hq
  | cont=>exact u5c hq
noncomputable def y5U (tb:XK->TS) (th:Addr->Value->TS):TS:=fun D σ H=>tb (fun cls a H'=>∃a',a=some a'/\th a' cls D σ H') D σ H
theorem z7X {body:List Stmt} {h₀:ExceptHandler} {hs:List ExceptHandler} {tb:XK->TS} {th:Addr->Value->TS} (hx:X.ex=[]) (hst:X.stack=X.env::X.outer) (hf:X.env.frame=some X.env.locals) (hb:PXs X body tb) (hh:PH X (h₀::hs) th) :
  PS X (.Try body (h₀::hs) [] [] pos) (y5U tb th):=by
 intro pins s σ H D I h;refine wpAny_Try_except (u5E (hb pins s σ H D _ I h) (fun f s1 q=>?_) fun e s1 q=>?_)
 ·cases f with
  | next=>exact wpAny_execs_nil q
  | ret v=>exact q
  | brk=>exact q
  | cont=>exact q
 ·obtain⟨a,cls,H',rfl,I',fl,a',ha,q⟩:=q;cases ha;exact y7k hx hst hf I' fl fun h5 I5 F5=>u5E (hh pins _ σ H' D a cls I5 F5 q) (fun _ _ z=>z) fun _ _ z=>z.elim
end
noncomputable def z5k (h:Heap) (C:Addr) (bm:List Value):Prop:=∃N nm q bs hdct sn sub ab col dd k0 k1 k2 k3 k5 newId,h.get? C=some (excClassObj nm q C N bs bm hdct sn sub ab col dd k0 k1 k2 k3 k5 newId)/\bm.contains (.type "BaseException")=true
theorem OX.at {K:u3q} {mg:Str->Option Value} {x:Str} {C:Addr} {bm:List Value} {h:Heap} (O:OX K mg x C bm) (X:K.In h):z5k h C bm:=by
 obtain⟨N,nm,q,bs,hdct,sn,sub,ab,col,dd,k0,k1,k2,k3,k5,lk,_,_⟩:=O.obj;exact⟨N,nm,q,bs,hdct,sn,sub,ab,col,dd,k0,k1,k2,k3,k5,_,X _ _ lk,(PySem.W.tail_of_in X O.tail).hasType rfl⟩
section
variable {M:Model} {A:Around} {E:Value->Shared->Prop} {h:Heap} {g:Array GenState} {d:Drawn} {t:Nat} {os:OsState}
theorem km {C:Addr} {bm:List Value} {c:Value} {Q:Bool->Shared->Prop} (O:z5k h C bm) (hq:Q ((u4J C::bm).contains c) ⟨h,g,d,t,os⟩):wpAny M A (isSubtype (.ref C) c) Q E ⟨h,g,d,t,os⟩:=by
 obtain⟨N,nm,q,bs,hdct,sn,sub,ab,col,dd,k0,k1,k2,k3,k5,newId,hC,hb⟩:=O;exact wpAny_isSubtype_exc hC hq
end
open PySem.Calls PySem.W
theorem y4v {K:Frag} {e C:Addr} {c:Value} (ty:∀(M:Model) (h:Heap),K.In h->Looks M h (typeOf c) (.type "type")) (it:∀(M:Model) (h:Heap),K.In h->Looks M h (isType c) true)
    (sub:∀(M:Model) (h:Heap),K.In h->Looks M h (isSubtype (.ref C) c) true):Answers (fun s=>K.In s.heap/\∃o,s.heap.get? e=some o/\o.cls=.ref C) (.ref e) c true:=by
  intro dep tk prog w A R s hs;obtain⟨h0,g,d,tt,os⟩:=s;obtain⟨⟨X,o,ho,hcl⟩,hq⟩:=hs;have LT:Looks (model prog w) h0 (typeOf (.ref e)) (.ref C):=hcl▸(Looks.ld ho).andThen .now;unfold Builtin.«isinstance.nested»;refine u3r (LT.at ?_);by_cases q:(u4J C == c)=true
  · rw[if_pos q]
    first
      | ((repeat lk);exact hq tt)
      | exact u3r (wpAny_rule (hq tt))
      | exact u3r (wpAny_rule (u3u (hq tt)))
  · rw[if_neg q];have LI:Looks (model prog w) h0 (isInstance (.ref e) c) true:=LT.andThen (sub _ _ X);refine u3r ((ty _ _ X).at ?_);rw[if_pos (by decide)]
    k_delta "plainIsInstance"
    refine u3r (u3r ((it _ _ X).at ?_));simp only [Bool.not_true,u5h,if_false];refine u3r (LI.at ?_)
    first
      | exact u3u (u3u (hq tt))
      | (simp only [if_true];first|exact u3u (u3u (hq tt))|exact u3u (hq tt)|exact u3r (u3u (u3u (hq tt))))
theorem y4u {K:Frag} {e C:Addr} {c:Value} {prog:Program} {w:World} {A:Around} {E:Value->Shared->Prop} {s:Shared} {Q:Value->Shared->Prop} (ty:∀(M:Model) (h:Heap),K.In h->Looks M h (typeOf c) (.type "type")) (it:∀(M:Model) (h:Heap),K.In h->Looks M h (isType c) true)
  (sub:∀(M:Model) (h:Heap),K.In h->Looks M h (isSubtype (.ref C) c) true) (X:K.In s.heap) (p:∃o,s.heap.get? e=some o/\o.cls=.ref C) (h:∀tk,Q (.bool true) { s with toks:=tk }) :
  wpAny (model prog w) A (call (.builtin "isinstance") [.ref e,c]) Q E s:=
 call_isinstance (S:=fun _ R s=>(K.In s.heap/\∃o,s.heap.get? e=some o/\o.cls=.ref C)/\∀tk,R (.ok (.ret (.bool true))) { s with toks:=tk })
  (fun prog w A R s hs=>isinstance_outer (y4v ty it sub 0 _ prog w A R s hs) (fun z=>nomatch z)) ⟨⟨X,p⟩,h⟩
theorem z4q {K:Frag} {mg:Str->Option Value} {x:Str} {C:Addr} {bm:List Value} (O:OX K mg x C bm) (M:Model) (h:Heap) (X:K.In h):Looks M h (typeOf (.ref C)) (.type "type")/\Looks M h (isType (.ref C)) true:=by
 obtain⟨N,nm,q,bs,hdct,sn,sub,ab,col,dd,k0,k1,k2,k3,k5,lk,_,_⟩:=O.obj;refine⟨(Looks.ld (X _ _ lk)).andThen .now,fun A' Q' E' s' k q=>?_⟩;unfold isType loadHead;exact u3r (wpAny_loadPart (k _ _ (X _ _ lk)) (u3u q))
theorem z3K {K:Frag} {mg:Str->Option Value} {x:Str} {C:Addr} {bm:List Value} {c:Value} {b:Bool} (O:OX K mg x C bm) (hb:(u4J C::bm).contains c=b) (M:Model) (h:Heap) (X:K.In h):Looks M h (isSubtype (.ref C) c) b:=
 fun A' Q' E' s' k q=>by
  obtain⟨h',g,d,t,os⟩:=s';exact km (O.at (X.keeps k)) (by rw[hb];exact q)
noncomputable def y7q (C:Addr) (c:V):List V->Hp->VK->Prop:=fun xs H Q=>∃a,xs=[.ref a,c]/\H a=some (y1d a (.ref C))/\Q (.bl true) H
theorem y1V {X:Cx} {x:Str} {C:Addr} {bm:List Value} {T:String} (O:OX X.K X.mg x C bm) (hb:(u4J C::bm).contains (.type T)=true) (hm:kitMeta T=true):CallR X (.builtin "isinstance") (y7q C (.ty T)):=by
 intro pins s σ H xs us Q I r h;obtain⟨a,rfl,ha,q⟩:=h;obtain⟨u,c,rfl,r1,r2⟩:=Vals.two r;obtain rfl:c=Value.type T:=r2;obtain rfl:u=u4J a:=r1;have ho:=(show ObjOk X.prog X.w H s.heap a (y1d a (.ref C)) from I.hok a _ ha)
 exact y4u (K:=X.K) (fun M h _=>Looks.of_pure (kitMeta_of hm)) (fun M h _=>Looks.of_pure rfl) (z3K O hb) I.kIn ho.1 fun tk=>⟨.bl true,H,I.tok tk,rfl,q⟩
end L2
namespace SM
theorem z3I (x:Int) {m:Int} (h:1<=m):0<=x%m/\x%m<m:=⟨u4g _ (by omega),u4Y _ (by omega)⟩
theorem y0N {x m r:Int} (h0:0<=r) (h1:r<m) (h:m∣x-r):x%m=r:=by
 obtain⟨k,hk⟩:=h;have:x=r+m*k:=by omega
 rw[this,u4h,u6a h0 h1]
theorem wW (x m:Int):m∣x-x%m:=⟨x/m,by have:=u4S x m;omega⟩
theorem z0l {x y m:Int} (h:m∣x-y):x%m=y%m:=Int.emod_emod_of_dvd_sub h
where
 Int.emod_emod_of_dvd_sub {x y m:Int} (h:m∣x-y):x%m=y%m:=by
  obtain⟨k,hk⟩:=h;have:x=y+m*k:=by omega
  rw[this,u4h]
noncomputable def sh2 (u v:T3):T3:=(yU u.1 v.1,(u.2.1-v.2.1-(v.2.2-1))%yU u.1 v.1,if u.2.2+v.2.2-1<yU u.1 v.1 then u.2.2+v.2.2-1 else yU u.1 v.1)
theorem z0K {u v:T3} (hu:1<=u.1):1<=yU u.1 v.1:=by have:=yh (a:=u.1) (b:=v.1) (by omega);omega
theorem y5j {u v:T3} (hu:L2.Wk u) (hv:L2.Wk v):L2.Wk (sh2 u v):=by
 have g:=z0K (v:=v) hu.1;have b:=z3I (u.2.1-v.2.1-(v.2.2-1)) g;obtain⟨_,_,_,_,_⟩:=hu;obtain⟨_,_,_,_,_⟩:=hv;refine⟨g,b.1,b.2,?_,?_⟩
 ·show 1<=ite _ _ _;split <;> omega
 ·show ite _ _ _<=yU u.1 v.1;split <;> omega
theorem z6I (d x g:Int):(d-x%g)%g=(d-x)%g:=z0l (by
 obtain⟨k,hk⟩:=wW x g;exact⟨k,by omega⟩)
noncomputable def NextOf (p:Int->Prop) (t:Int):Option Int->Prop
 | some x=>t<=x/\p x/\∀y,t<=y->y<x->¬p y
 | none=>∀y,t<=y->¬p y
theorem NextOf.uniq {p q:Int->Prop} {t:Int} (e:∀k,t<=k->(p k ↔ q k)) {r s:Option Int} (h:NextOf p t r) (g:NextOf q t s):r=s:=by
 cases r with
 | none=>cases s with
  | none=>rfl
  | some j=>exact absurd ((e j g.1).mpr g.2.1) (h j g.1)
 | some i=>cases s with
  | none=>exact absurd ((e i h.1).mp h.2.1) (g i h.1)
  | some j=>
   have h1:=h.2.2 j g.1;have h2:=g.2.2 i h.1;have h3:=(e j g.1).mpr g.2.1;have h4:=(e i h.1).mp h.2.1;have:i=j:=by
    rcases Int.lt_trichotomy i j with c|c|c
    ·exact absurd h4 (h2 c)
    ·exact c
    ·exact absurd h3 (h1 c)
   rw[this]
noncomputable def awP (u:T3) (t:Int):Prop:=(t-u.2.1)%u.1<u.2.2
noncomputable def z5o (ws vs:List T3) (d t:Int):Prop:=(∃u∈ws,awP u t)/\∃v∈vs,awP v (t-d)
noncomputable def z5i (u:T3) (t:Int):Int:=t+(u.2.1-t)%u.1
noncomputable def nbI (u v:T3) (t:Int):Option Int:=(yY (z5i u t-v.2.1) u.1 v.1 v.2.2).map fun i=>z5i u t+u.1*i
theorem z8E (u:T3) (t:Int):u.1∣z5i u t-u.2.1:=by
 obtain⟨k,hk⟩:=wW (u.2.1-t) u.1;exact⟨-k,by unfold z5i;rw[Int.mul_neg];omega⟩
theorem z5D {u v:T3} {t i:Int}:qM (z5i u t-v.2.1) u.1 v.1 v.2.2 i ↔ awP v (z5i u t+u.1*i):=by
 unfold qM awP;have:z5i u t-v.2.1+u.1*i=z5i u t+u.1*i-v.2.1:=by omega
 rw[this]
theorem y0K {u v:T3} {t x:Int} (hu:L2.Wk u) (hv:L2.Wk v) (h:nbI u v t=some x):t<=x/\awP u x/\awP v x:=by
 have L:=yO (st:=z5i u t-v.2.1) (sp:=u.1) (w:=v.1) (n:=v.2.2) (by have:=hv.1;omega) hv.2.2.2.1;unfold nbI at h;obtain⟨i,hi,rfl⟩:=u4e.mp h;rw[hi] at L;have b:=z3I (u.2.1-t) hu.1;have m:=Int.mul_nonneg (show 0<=u.1 by have:=hu.1;omega) L.1;refine⟨by unfold z5i;omega,?_,z5D.mp L.2.1⟩;obtain⟨k,hk⟩:=z8E u t;unfold awP;rw[y0N (r:=0) (by omega) (by have:=hu.1;omega) ⟨k+i,by rw[Int.mul_add];omega⟩];have:=hu.2.2.2.1;omega
theorem y6C {u v:T3} {t y:Int} (hu:L2.Wk u) (hv:L2.Wk v) (ht:t<=y) (h1:u.1∣y-u.2.1) (h2:awP v y):∃x,nbI u v t=some x/\x<=y:=by
 have L:=yO (st:=z5i u t-v.2.1) (sp:=u.1) (w:=v.1) (n:=v.2.2) (by have:=hv.1;omega) hv.2.2.2.1;obtain⟨k,hk⟩:=z8E u t;obtain⟨j,hj⟩:=h1;have e:y=z5i u t+u.1*(j-k):=by rw[Int.mul_sub];omega
 have u0:=hu.1;have b:=z3I (u.2.1-t) u0;have jk:0<=j-k:=by
  by_cases c:0<=j-k
  ·exact c
  ·exfalso;have:u.1*(j-k)<=u.1*(-1):=u4E (by omega) (by omega);rw[Int.mul_neg,Int.mul_one] at this;unfold z5i at e;omega
 have hit:qM (z5i u t-v.2.1) u.1 v.1 v.2.2 (j-k):=z5D.mpr (by rw[←e];exact h2);cases hf:yY (z5i u t-v.2.1) u.1 v.1 v.2.2 with
 | none=>rw[hf] at L;exact absurd hit (L _ jk)
 | some i=>
  rw[hf] at L;refine⟨z5i u t+u.1*i,by unfold nbI;rw[hf];rfl,?_⟩;have le:i<=j-k:=by
   by_cases c:i<=j-k
   ·exact c
   ·exact absurd hit (L.2.2 _ jk (by omega))
  have:=u4E le (show 0<=u.1 by omega);omega
theorem z5j {u:T3} {x:Int} (hu:L2.Wk u) (h:awP u x) (h2:¬awP u (x-1)):u.1∣x-u.2.1:=by
 unfold awP at *
 have b:=z3I (x-u.2.1) hu.1;obtain⟨k,hk⟩:=wW (x-u.2.1) u.1;by_cases c:(x-u.2.1)%u.1=0
 ·exact⟨k,by omega⟩
 ·exfalso;have:(x-1-u.2.1)%u.1=(x-u.2.1)%u.1-1:=y0N (by omega) (by omega) ⟨k,by omega⟩;omega
noncomputable def z6j (os:List (Option Int)):Option Int->Prop
 | some x=>some x∈os/\∀y,some y∈os->x<=y
 | none=>∀y,some y∉os
noncomputable def qK (ws vs:List T3) (t:Int):List (Option Int):=ws.flatMap fun u=>vs.flatMap fun v=>[nbI u v t,nbI v u t]
theorem z0o {ws vs:List T3} {t:Int} {o:Option Int}:o∈qK ws vs t ↔ ∃u∈ws,∃v∈vs,o=nbI u v t∨o=nbI v u t:=by
 unfold qK;simp only [List.mem_flatMap,u3w,u4B,or_false]
noncomputable def shT (d:Int) (u:T3):T3:=(u.1,(u.2.1+d)%u.1,u.2.2)
theorem z6h (d:Int) (u:T3) (t:Int):awP (shT d u) t ↔ awP u (t-d):=by
 unfold awP shT;dsimp only;rw[z6I];have:t-(u.2.1+d)=t-d-u.2.1:=by omega
 rw[this]
theorem z1p (d:Int) {u:T3} (h:L2.Wk u):L2.Wk (shT d u):=by
 have b:=z3I (u.2.1+d) h.1;exact⟨h.1,b.1,b.2,h.2.2.2.1,h.2.2.2.2⟩
theorem z8h {p:Int->Prop} {t y:Int} (ht:t<=y) (h:p y):∃x,t<=x/\x<=y/\p x/\∀z,t<=z->z<x->¬p z:=by
 obtain⟨n,hn⟩:∃n:Nat,y=t+n:=⟨(y-t).toNat,by omega⟩
 induction n using Nat.strongRecOn generalizing y with
 | ind n ih=>
  by_cases c:∃z,t<=z/\z<y/\p z
  ·obtain⟨z,z1,z2,z3⟩:=c;obtain⟨x,a,b,e,f⟩:=ih (z-t).toNat (by omega) z1 z3 (by omega);exact⟨x,a,by omega,e,f⟩
  ·exact⟨y,ht,Int.le_refl _,h,fun z z1 z2 z3=>c ⟨z,z1,z2,z3⟩⟩
theorem kg {ws vs:List T3} {d t:Int} (hw:∀u∈ws,L2.Wk u) (hv:∀v∈vs,L2.Wk v) (h:¬z5o ws vs d t) {r:Option Int} (hr:z6j (qK ws (vs.map (shT d)) t) r):NextOf (z5o ws vs d) t r:=by
 have A:∀y,some y∈qK ws (vs.map (shT d)) t->t<=y/\z5o ws vs d y:=fun y hy=>by
  obtain⟨u,hu,v',hv',e⟩:=z0o.mp hy;obtain⟨v,hv2,rfl⟩:=u4l.mp hv';have key:t<=y/\awP u y/\awP (shT d v) y:=by
   rcases e with e|e
   ·exact y0K (hw u hu) (z1p d (hv v hv2)) e.symm
   ·have:=y0K (z1p d (hv v hv2)) (hw u hu) e.symm;exact⟨this.1,this.2.2,this.2.1⟩
  exact⟨key.1,⟨u,hu,key.2.1⟩,v,hv2,(z6h d v y).mp key.2.2⟩
 have B:∀y,t<=y->z5o ws vs d y->∃x,some x∈qK ws (vs.map (shT d)) t/\x<=y:=fun y hy hT=>by
  obtain⟨x,x1,x2,x3,x4⟩:=z8h hy hT;have xt:t<x:=by
   rcases Int.lt_or_eq_of_le x1 with z|z
   ·exact z
   ·exact absurd (by rw[z];exact x3) h
  obtain⟨⟨u,hu,au⟩,v,hv2,av⟩:=x3;have av2:=(z6h d v x).mpr av;have nb:=x4 (x-1) (by omega) (by omega);by_cases c:awP u (x-1)
  ·have c2:¬awP (shT d v) (x-1):=fun z=>nb ⟨⟨u,hu,c⟩,v,hv2,(z6h d v (x-1)).mp z⟩;obtain⟨z,z1,z2⟩:=y6C (t:=t) (z1p d (hv v hv2)) (hw u hu) x1 (z5j (z1p d (hv v hv2)) av2 c2) au;exact⟨z,z0o.mpr ⟨u,hu,_,List.mem_map_of_mem hv2,.inr z1.symm⟩,by omega⟩
  ·obtain⟨z,z1,z2⟩:=y6C (t:=t) (hw u hu) (z1p d (hv v hv2)) x1 (z5j (hw u hu) au c) av2;exact⟨z,z0o.mpr ⟨u,hu,_,List.mem_map_of_mem hv2,.inl z1.symm⟩,by omega⟩
 cases r with
 | none=>
  intro y hy hT;obtain⟨x,hx,_⟩:=B y hy hT;exact hr x hx
 | some x=>
  refine⟨(A x hr.1).1,(A x hr.1).2,fun y y1 y2 hT=>?_⟩;obtain⟨z,hz,zy⟩:=B y y1 hT;have:=hr.2 z hz;omega
theorem y0H {ws vs:List T3} {d t:Int} (h:z5o ws vs d t):NextOf (z5o ws vs d) t (some t):=⟨Int.le_refl _,h,fun y y1 y2=>by omega⟩
end SM
namespace L2
open PySem PySem.Spec PyProof.Rows SM
section
variable {X:Cx} {pos:Pos}
noncomputable def y7z (K:u3q) (n:Nat) (t:TGs):TG:=fun v σ H Q=>∃a xs,v=.ref a/\SqL K H a xs/\xs.length=n/\t xs σ H Q
theorem y5w {es:List Expr} {k:Nat} {t:TGs} {n:Nat} (hc:X.calm=true) (h:PGs X es t)
  (hn:(assignEach es X.env).length=n:=by rfl) (hst:(assignEach es X.env).findIdx? (·.1)=none:=by rfl):PG X (.Tuple es k pos) (y7z X.K n t):=by
 intro pins s σ H v u Q I r hw;obtain⟨a,xs,e1,hq,hl,hw⟩:=hw;subst e1;cases r;obtain⟨its,rv,p,hz⟩:=I.list hq;rw[assign_Tuple];refine u3r (wpAny_standAt ?_);unfold unpack;have hn2:(assignEach es X.env).length=its.toArray.size:=by simp [hn,←hl,rv.length]
 rw[hn2,hst];refine u3r (wpAny_holding (PySem.W.kun_itemsOf (I.ok.hd hc) p.isList fun h' hx=>?_));have I1:Inv X pins σ H { s with heap:=h' }:=I.kept (t':=s.toks) fun b o e=>hx b o (u4c (u4D e)) e;exact h pins _ σ H xs _ Q I1 (by simpa using rv) hw
end
section
variable {X:Cx}
end
section
variable {X:Cx} {K:u3q}
theorem y2r (h:X.K=K):IxR X (y3Y K):=h▸za
end
section
variable {K:u3q} {H:Hp} {Q:VK} {a b a1 a2 b1 b2:Addr} {xs1 xs2 ys1 ys2:List V} {ws vs:List T3}
end
section
variable {X:Cx} {tg:Expr}
noncomputable def y6s (ta:TA):TI:=fun σ H R=>ta σ H fun vs H1=>∃i j:Int,vs=[.int i,.int j,.int (-1)]/\R (Its i (-1) (i-j).toNat) H1
theorem ve {ta:TA} {R:It->Hp->Prop} {σ:St} {H:Hp}:y6s ta σ H R=ta σ H fun vs H1=>∃i j:Int,vs=[.int i,.int j,.int (-1)]/\R (Its i (-1) (i-j).toNat) H1:=rfl
end
open Builtin Builtin.Getset_descriptor Builtin.ObjectAttr PySem.Calls PySem.W
structure OC (K:Frag) (C:Addr):Prop where
 ga:findIn K (.ref C) "__getattribute__" = some (some (.builtin "BaseException.__getattribute__"))
 gt:findIn K (.ref C) "__getattr__" = some none
 cl:findIn K (.ref C) "__class__" = some (some (.builtin "object.__class__"))
section
variable {prog:Program} {w:World} {A:Around} {E:Value->Shared->Prop} {h:Heap} {g:Array GenState} {d:Drawn} {t:Nat} {os:OsState} {a C:Addr} {o:Obj} {bm:List Value} {K:Frag}
theorem z0r {M:Model} (hx:h.get? a=some o) (hc:o.cls=.ref C):Looks M h (typeOf (.ref a)) (.ref C):=hc▸(Looks.ld hx).andThen .now
theorem z4r {M:Model} {c:Value} {b:Bool} (O:∀h',K.In h'->z5k h' C bm) (X:K.In h) (hb:(u4J C::bm).contains c=b):Looks M h (isSubtype (.ref C) c) b:=
 fun A' Q' E' s' k q=>by
  obtain⟨h',g,d,t,os⟩:=s';exact km (O _ (X.keeps k)) (by rw[hb];exact q)
theorem z3p {R:Result->Shared->Prop} {tp:Value} (O:∀h',K.In h'->z5k h' C bm) (X:K.In h) (ho:(u4J C::bm).contains (.type "object")=true) (hx:h.get? a=some o) (hc:o.cls=.ref C) (hq:R (.ok (.ret (.ref C))) ⟨h,g,d,t,os⟩) :
  codeAny (model prog w) A (.call (.builtin "getset_descriptor.__get__") ⟨[.builtin "object.__class__",.ref a,tp],[]⟩) R ⟨h,g,d,t,os⟩:=by
 have L0:=z0r (M:=model prog w) hx hc;have L1:=z4r (M:=model prog w) O X ho;refine codeAny_call_builtin KF.slot_gs.plain KF.entry_gs (KF.slot_gs.check _ _ _ _ _ _ _ _ KF.type_class (KF.args_gs _ _ _) ?_);unfold Builtin.«getset_descriptor.__get__» descrGet;rw[dga_obj];refine u3r (u3u ?_);unfold descrGetter descrCheckInstance descrNameAndClass isInstance;simp only [KF.owner_class]
 repeat lk
 refine⟨Code.quiet_builtin _ (by decide +kernel),u5u KF.entry_class ?_⟩;unfold Builtin.«object.__class__» shownTypeOf
 repeat lk
 exact hq
theorem z5Y {M:Model} {nameV:Value} {Q:Unit->Shared->Prop} (O:z5k h C bm) (hx:h.get? a=some o) (hc:o.cls=.ref C) (hq:Q () ⟨h,g,d,t,os⟩):wpAny M A (checkBuiltinCall "BaseException.__getattribute__" ⟨[.ref a,nameV],[]⟩) Q E ⟨h,g,d,t,os⟩:=by
 have hk:builtinKind "BaseException.__getattribute__" = some .slot:=by decide +kernel
 have hsplit:splitId "BaseException.__getattribute__" = some ("BaseException", "__getattribute__"):=by decide +kernel
 obtain⟨N,nm,q,bs,hdct,sn,sub,ab,col,dd,k0,k1,k2,k3,k5,newId,hC,hb⟩:=O;have hcB:(u4J C::bm).contains (.type "BaseException")=true:=by rw[List.contains_cons,hb,Bool.or_true]
 have ha:=PySem.F.args_bexc_ga (.ref a) nameV;simp only [checkBuiltinCall,hk,hsplit];refine u3r ?_
 ·unfold isInstance
  repeat (first|(with_reducible refine wpAny_loadPart_at hx ?_;rw[hc])|(with_reducible refine wpAny_isSubtype_exc hC ?_;rw[hcB])|wp_step)
  exact hq
theorem z1I {tk:Tok} {Q:Fin->Shared->Prop} (Z:OC K C) (O:∀h',K.In h'->z5k h' C bm) (X:K.In h) (ho:(u4J C::bm).contains (.type "object")=true) (hx:h.get? a=some o) (hc:o.cls=.ref C) (hq:Q (.done (.ret (.ref C))) ⟨h,g,d,t,os⟩) :
  wpAny (model prog w) A (Builtin.«object.__getattribute__» ⟨[.ref a,.str "__class__" tk],[]⟩) Q E ⟨h,g,d,t,os⟩:=by
 have hT5:(⟨h,g,d,t,os⟩:Shared).TypeIs (.builtin "object.__class__") "getset_descriptor" :=PySem.F.typeOf_object_class;have f5:=PySem.F.typeOf_object_class;have f6:=PySem.F.slot_gs_get.lookup;have f7:=PySem.F.slot_gs_set.lookup;have L1:=looks_findIn (M:=model prog w) X Z.cl
 repeat (any_goals (first|assumption|(with_reducible refine wpAny_loadPart_at hx ?_;rw[hc])|with_reducible refine L1.at ?_|wp_step))
 refine z3p O X ho hx hc ?_
 repeat (any_goals (first|assumption|wp_step))
theorem z5X {tk:Tok} {fill:Bool} {Q:Value->Shared->Prop} (Z:OC K C) (O:∀h',K.In h'->z5k h' C bm) (X:K.In h) (ho:(u4J C::bm).contains (.type "object")=true) (hx:h.get? a=some o) (hc:o.cls=.ref C) (hq:Q (.ref C) ⟨h,g,d,t,os⟩) :
  wpAny (model prog w) A (getAttrBy (.ref a) (.str "__class__" tk) fill false) Q E ⟨h,g,d,t,os⟩:=by
 have f3:=PySem.F.excAttr_ValueError.ga.bind (.ref a);have hx0:(false && onTheHeap (Value.builtin "BaseException.__getattribute__"))=false:=rfl;have hx2:(Value.builtin "BaseException.__getattribute__" == Value.builtin "object.__getattribute__")=false:=by decide +kernel
 have hx1:(onTheHeap (u4J C) && Value.builtin "BaseException.__getattribute__" == Value.builtin "object.__getattribute__")=false:=by rw[hx2];rfl
 have L1:=looks_findIn (M:=model prog w) X Z.ga;have L2:=looks_findIn (M:=model prog w) X Z.gt
 repeat (any_goals (first|assumption|(with_reducible refine wpAny_loadPart_at hx ?_;rw[hc])|with_reducible refine L1.at ?_|with_reducible refine L2.at ?_|wp_step))
 refine codeAny_call_builtin PySem.F.excAttr_ValueError.ga.plain PySem.F.entry_bexc_ga (z5Y (O _ X) hx hc (z1I Z O X ho hx hc ?_))
 repeat (any_goals (first|assumption|wp_step))
theorem y1N {Q:Option Value->Shared->Prop} (Z:OC K C) (O:∀h',K.In h'->z5k h' C bm) (X:K.In h) (ho:(u4J C::bm).contains (.type "object")=true) (hx:h.get? a=some o) (hc:o.cls=.ref C) (hq:Q (some (.ref C)) ⟨h,g,d,t+1,os⟩) :
  wpAny (model prog w) A (getAttr? (.ref a) "__class__") Q E ⟨h,g,d,t,os⟩:=by
 unfold getAttr? getAttrBy?;refine u3r (wpAny_mkText (u3r (wpAny_attempt ?_)));exact z5X Z O X ho hx hc (u3u hq)
end
section
variable {K:Frag} {mg:Str->Option Value} {x x':Str} {C C':Addr} {bm bm':List Value}
theorem y2p {a:Addr} (Z:OC K C) (O:OX K mg x C bm) (ho:(u4J C::bm).contains (.type "object")=true):KitX K (.ref a) (.ref C) (fun h=>∃o,h.get? a=some o/\o.cls=.ref C) where
 ty:=fun M h _ p=>by
  obtain⟨o,h1,h2⟩:=p;exact z0r h1 h2
 it:=fun M h X _=>(z4q O M h X).2
 ne:=fun h tp dd its n sl X htp=>by
  refine Bool.eq_false_iff.mpr fun q=>?_;have e:C=tp:=u4J.inj (beq_iff_eq.mp q);subst e;obtain⟨N,nm,q,bs,hdct,sn,sub,ab,col,dd,k0,k1,k2,k3,k5,lk,_,_⟩:=O.obj;have z:=(X _ _ lk).symm.trans htp;have z2:=congrArg (fun o=>o.map Obj.cls) z;have z3:some (Value.type "type")=some (Value.type "tuple"):=z2;exact absurd (Value.type.inj (u5Y z3)) (by decide)
 ca:=fun {prog w A E Q s} X p k=>by
  obtain⟨o,h1,h2⟩:=p;obtain⟨h,g,d,t,os⟩:=s;exact y1N Z (fun h' X'=>O.at X') X ho h1 h2 k
theorem z8i (O:OX K mg x C bm) (O':OX K mg x' C' bm'):kitOne K (.ref C) (.ref C')=some ((u4J C::bm).contains (.ref C')):=by
 obtain⟨N,nm,q,bs,hdct,sn,sub,ab,col,dd,k0,k1,k2,k3,k5,lk,_,_⟩:=O.obj;obtain⟨N',nm',q',bs',hdct',sn',sub',ab',col',dd',k0',k1',k2',k3',k5',lk',_,_⟩:=O'.obj;unfold kitOne;by_cases e:(u4J C == u4J C')=true
 ·rw[if_pos e];have:C=C':=u4J.inj (beq_iff_eq.mp e);subst this;simp
 ·rw[if_neg e];unfold kitCls;have h1:(clsIn K C').isSome=true:=by unfold clsIn;rw[lk'];rfl
  have h2:typeIn K (.ref C')=some (.type "type"):=by show (K.lookup C').map (·.cls)=_;rw[lk'];rfl
  simp only [h1,h2,Bool.true_and,beq_self_eq_true,if_true];show mroIn K C (.ref C')=_;unfold mroIn clsIn;rw[lk];rfl
end
section
variable {X:Cx}
end
end L2
namespace SM
end SM
namespace L2
open PySem PySem.Spec PySem.Calls PyProof.Rows SM
section
variable {prog:Program} {w:World} {A:Around} {E:Value->Shared->Prop} {s:Shared}
end
section
variable {X:Cx} {tg:Expr}
noncomputable def y7G (ta:TA):TE:=fun σ H Q=>ta σ H fun vs H1=>∃j:Int,vs=[.int j]/\∀p,H1 p=none->Q (.ref p) (upd H1 p (.rng 0 j))
theorem z2O {ta:TA} {σ:St} {H:Hp} {Q:VK}:y7G ta σ H Q=ta σ H fun vs H1=>∃j:Int,vs=[.int j]/\∀p,H1 p=none->Q (.ref p) (upd H1 p (.rng 0 j)):=rfl
theorem z9v {a:Expr} {ta:TA} {p pos:Pos} (hg:Gl X "range") (hm:X.mg "range" = none) (ha:PA X [a] ta) (hs:u4W [a] X.env=[(false,eval a X.env)]:=by rfl):PE X (.Call (.Name "range" p) [a] [] pos) (y7G ta):=by
 intro pins s σ H Q I h;refine Call_ (ki I hg hm boot_range (u5Z (thn (ha pos pins s σ H _ I h) fun us s1 ⟨vs,H1,I1,r1,q1⟩=>?_) hs rfl));obtain⟨j,e,q⟩:=q1;subst e;cases r1 with
 | cons r rr=>
  cases rr;obtain⟨t,rfl⟩:=r;refine call_range_1 ?_;have hf:H1 s1.heap.objs.size=none:=I1.hok.fresh (u3y _);exact⟨.ref s1.heap.objs.size,upd H1 s1.heap.objs.size (.rng 0 j),I1.laid (fun b u e=>u3v _ e) (u3y _) ⟨_,_,_,u4C _ rfl⟩,rfl,q _ hf⟩
noncomputable def y6w (ta:TE):TI:=fun σ H R=>ta σ H fun x H1=>∃(a:Addr) (n:Int),x=.ref a/\H1 a=some (.rng 0 n)/\0<=n/\n<2^62/\R (Its (n-1) (-1) n.toNat) H1
theorem vj {ta:TE} {R:It->Hp->Prop} {σ:St} {H:Hp}:y6w ta σ H R=ta σ H fun x H1=>∃(a:Addr) (n:Int),x=.ref a/\H1 a=some (.rng 0 n)/\0<=n/\n<2^62/\R (Its (n-1) (-1) n.toNat) H1:=rfl
end
end L2
namespace SM
noncomputable def z0p (u:T3) (s r:Int):Bool:=decide ((r-u.2.1)%yU s u.1<u.2.2)
noncomputable def Cov (us:List T3) (s r:Int):Prop:=∀x:Int,∃u∈us,awP u (r+s*x)
theorem z8x {m g:Int} (m0:0<=m) (g0:1<=g):m%g<=m:=by
 by_cases c:m<g
 ·rw[u6a m0 c];exact Int.le_refl _
 ·have:=z3I m g0;omega
theorem y2e {u:T3} {s r x:Int} (hu:L2.Wk u) (hs:1<=s) (h:awP u (r+s*x)):z0p u s r=true:=by
 refine decide_eq_true ?_;have g0:1<=yU s u.1:=z0K (u:=(s,0,0)) (v:=u) hs;have m:=z3I (r+s*x-u.2.1) hu.1;have d1:=u5K (yN s u.1) (wW (r+s*x-u.2.1) u.1);unfold awP at h;generalize (r+s*x-u.2.1)%u.1=k at *
 have e:(r-u.2.1)%yU s u.1=k%yU s u.1:=z0l (by
  have d2:yU s u.1∣s*x:=u5K (y4 s u.1) ⟨x,rfl⟩;have:r-u.2.1-k=r+s*x-u.2.1-k-s*x:=by omega
  rw[this];exact Int.dvd_sub d1 d2)
 rw[e];have:=z8x m.1 g0;omega
theorem Cov.met {us:List T3} {s r:Int} (hu:∀u∈us,L2.Wk u) (hs:1<=s) (h:Cov us s r):Cov (us.filter fun u=>z0p u s r) s r:=fun x=>by
 obtain⟨u,mu,a⟩:=h x;exact⟨u,List.mem_filter.mpr ⟨mu,y2e (hu u mu) hs a⟩,a⟩
theorem Cov.parted {us:List T3} {s r:Int} (h:Cov us s r) (b c:Int):Cov us (s*b) (r+s*c):=fun x=>by
 have:=h (c+b*x);rw[Int.mul_add,←u4t,←Int.add_assoc] at this;exact this
theorem Cov.some {us:List T3} {s r:Int} (h:Cov us s r):us≠[]:=fun e=>by
 obtain⟨u,mu,_⟩:=h 0;rw[e] at mu;cases mu
theorem y2T {u:T3} {s r:Int} (hu:L2.Wk u) (hs:1<=s) (m:z0p u s r=true) (l:z6L u s r=false):2<=u.1/yU s u.1:=by
 have g0:1<=yU s u.1:=z0K (u:=(s,0,0)) (v:=u) hs;obtain⟨y,hy⟩:=yN s u.1;have e:u.1/yU s u.1=y:=by
  conv=>lhs;lhs;rw[hy]
  exact Int.mul_ediv_cancel_left y (by omega)
 rw[e];by_cases c:2<=y
 ·exact c
 ·exfalso;have p0:=hu.1;have y1:y=1:=by
   rcases (show y<=0∨y=1 by omega) with z|z
   ·have:=u4E z (show 0<=yU s u.1 by omega);omega
   ·exact z
  rw[y1,Int.mul_one] at hy;have m1:(r-u.2.1)%yU s u.1<u.2.2:=of_decide_eq_true m;have l1:¬u.1-u.2.2<=(r-u.2.1-u.2.2)%yU s u.1:=of_decide_eq_false l;rw[←hy] at m1 l1;obtain⟨k,hk⟩:=wW (r-u.2.1) u.1;have b:=z3I (r-u.2.1) p0;obtain⟨_,_,_,l3,l4⟩:=hu;generalize (r-u.2.1)%u.1=t at *
  rw[y0N (r:=t-u.2.2+u.1) (by omega) (by omega) ⟨k-1,by rw[Int.mul_sub];omega⟩] at l1;omega
theorem y2U {s p L b:Int} (hs:1<=s) (hp:1<=p) (h1:s∣L) (h2:p∣L) (hb:b∣p/yU s p):s*b∣L:=
 u5K (show s*b∣z3v s p from Int.mul_dvd_mul_left s hb) (z7i hs hp h1 h2)
open L2 in
theorem z4Z {ws:List T3} {s r b:Int} {ps:List Pap} {p:Pap} (h:yM ws s r b 0 ps=true) (hp:yB ws (s*b) (r+s*(ps.length:Int)) p=true):yM ws s r b 0 (ps++[p])=true:=by
 have e:=jz (ws:=ws) (s:=s) (r:=r) (b:=b) (ps:=ps++[p]) (c:=0) (i:=ps.length) (p:=p) (by simp);rw[u5C (by simp),List.take_append_of_le_length (u3y _),u4b,Nat.zero_add,h,hp] at e;exact e
end SM
namespace L2
open PySem PySem.Spec PySem.Calls PyProof.Rows SM
noncomputable def z3u (n:Nat):List Int:=(u6X n).map fun i:Nat=>(i:Int)
theorem z4A:∀(l:List Value) (k:Nat),(∀(j:Nat) (v:Value),l[j]?=some v->∃t,v=.int ((k+j:Nat):Int) t)->Vals ((u6O k l.length).map fun i:Nat=>V.int (i:Int)) l
 | [],_,_=>.nil
 | x::l,k,h=>by
  obtain⟨t,rfl⟩:=h 0 x rfl;have ih:=z4A l (k+1) fun j v e=>by
   obtain⟨t,rfl⟩:=h (j+1) v (by simpa using e);exact⟨t,by rw[Nat.add_assoc,Nat.add_comm 1 j]⟩
  rw[u3x,List.range'_succ,u4j];exact .cons ⟨t,rfl⟩ ih
theorem y1f {n:Nat} {acc:Array Value} (h:ItemsOf (fun i v=>∃t,v=.int (0+(i:Int)*1) t) acc n):Vals ((z3u n).map V.int) acc.toList:=by
 have e:=z4A acc.toList 0 fun j v e=>by
  rw[u4R] at e;obtain⟨t,rfl⟩:=h.2 j v e;exact⟨t,by congr 1;simp⟩
 have hl:acc.toList.length=n:=by rw[u4P];exact h.1
 rw[hl,←List.range_eq_range'] at e;unfold z3u;rw[List.map_map];exact e
section
variable {X:Cx}
theorem z3r (hc:X.calm=true):CallR X (.type "list") (fun xs H Q=>∃(p:Addr) (n:Int),xs=[.ref p]/\H p=some (.rng 0 n)/\0<=n/\n<=2^20/\∀l,H l=none->Q (.ref l) (upd H l (IL (z3u n.toNat)))):=by
 intro pins s σ H xs us Q I r h;obtain⟨p,n,rfl,hq,n0,n1,q⟩:=h;obtain⟨u,rfl,rx⟩:=z8N r;cases rx;obtain⟨t,u,v,ho⟩:=(show ObjOk X.prog X.w H s.heap p (.rng 0 n) from I.hok p _ hq)
 have en:((n.toNat:Nat):Int)=n:=by omega
 have rs:u6S 0 n 1=(n.toNat:Nat):=by
  unfold u6S;simp;split <;> omega
 have sm:Builtin.Range.small 0 n 1=true:=by
  unfold Builtin.Range.small Builtin.Range.rangeFitsLong;simp;omega
 have hz:((z3u n.toNat).map V.int).length<=u4L:=by
  unfold z3u;rw[u3z,u3z,List.length_range,u4Q];omega
 refine call_list_range (I.ok.hd hc) ho sm rs (by omega) fun h' tk acc' c' hk hD hacc=>?_;have I2:=I.laid (o:=IL (z3u n.toNat)) (h':=h') (t':=tk) hk (u3y _)
  (show ObjOk X.prog X.w _ h' _ (.lst ((z3u n.toNat).map V.int)) from⟨hz,acc'.toList,c',y1f hacc,by rw[Array.toArray_toList];exact hD⟩)
 exact⟨.ref _,_,I2,rfl,q _ (I.hok.fresh (u3y _))⟩
end
noncomputable abbrev Hd:=List T3×Int
theorem y1I (xs:List V) (n:Nat):z9K xs (some (n:Int)) none=xs.drop n:=by
 unfold z9K;have e1:HT.sIx xs.length xs.length none=xs.length:=rfl;have e2:HT.sIx xs.length 0 (some (n:Int))=min n xs.length:=by
  unfold HT.sIx;simp only;split <;> omega
 rw[e1,e2,u5C (by rw[u4w];omega)];by_cases c:n<=xs.length
 ·rw[Nat.min_eq_left c]
 ·rw[Nat.min_eq_right (by omega),List.drop_length,List.drop_eq_nil_of_le (by omega)]
section
variable {K:u3q} {H:Hp} {Q:VK} {a b:Addr} {xs ys:List V} {ws vs:List Hd}
end
section
variable {K:u3q} {H:Hp} {Q:VK} {a b:Addr} {ws vs:List (Option Int)}
end
end L2
namespace SM
open L2
theorem z8F {u:T3} {x y:Int} (h:u.1∣y-x):awP u y ↔ awP u x:=by
 unfold awP;rw[z0l (x:=y-u.2.1) (y:=x-u.2.1) (by rw[show y-u.2.1-(x-u.2.1)=y-x by omega];exact h)]
theorem y4d {ws us:List T3} {d t:Int} {r:Option Int} {u v:T3} (mu:u∈ws) (mv:v∈us) {x0:Int} (h1:awP u x0) (h2:awP v (x0-d)) {L:Int} (L0:0<L) (d1:u.1∣L) (d2:v.1∣L) (h:NextOf (z5o ws us d) t r):∃x,r=some x/\t<=x/\x<t+L/\z5o ws us d x:=by
 have b0:=u4g (x0-t) (show L≠0 by omega);have b1:=u4Y (x0-t) L0;have e:=Int.emod_add_mul_ediv (x0-t) L;have dv:L∣t+(x0-t)%L-x0:=⟨-((x0-t)/L),by rw[Int.mul_neg];omega⟩
 have y:z5o ws us d (t+(x0-t)%L):=⟨⟨u,mu,(z8F (u5K d1 dv)).mpr h1⟩,v,mv,(z8F (u:=v) (x:=x0-d) (by rw[show t+(x0-t)%L-d-(x0-d)=t+(x0-t)%L-x0 by omega];exact u5K d2 dv)).mpr h2⟩
 cases r with
 | none=>exact absurd y (h _ (by omega))
 | some x=>
  refine⟨x,rfl,h.1,?_,h.2.1⟩;by_cases c:x<=t+(x0-t)%L
  ·omega
  ·exact absurd y (h.2.2 _ (by omega) (by omega))
theorem IsPart.uniq {n d e:Int} (h:IsPart n d) (g:IsPart n e):d=e:=by
 by_cases c:d<e
 ·exact absurd h.dvd (g.least d h.two c)
 ·by_cases c2:e<d
  ·exact absurd g.dvd (h.least e g.two c2)
  ·omega
noncomputable def y1i (n:Nat):Nat->Nat->Bool
 | 0,_=>true
 | f+1,d=>if n%d=0 then false else y1i n f (d+1)
theorem z6m {n:Nat}:∀ {f d:Nat},y1i n f d=true->∀e,d<=e->e<d+f->n%e≠0
 | 0,d,_,e,h1,h2=>by omega
 | f+1,d,h,e,h1,h2=>by
  unfold y1i at h;split at h
  ·cases h
  ·rename_i c
   by_cases z:e=d
   ·rw[z];exact c
   ·exact z6m h e (by omega) (by omega)
theorem xE {n f:Nat} (h2:2<=n) (hs:n<(2+f)*(2+f)) (h:y1i n f 2=true):IsPart n n:=by
 refine z0u (p:=2+(f:Int)) (by omega) (fun d d2 dq e=>?_) (by omega) (by
  have z:((n:Int))<(((2+f)*(2+f):Nat):Int):=Int.ofNat_lt.mpr hs;rw[Int.natCast_mul,Int.natCast_add] at z;exact z)
 obtain⟨k,rfl⟩:=Int.eq_ofNat_of_zero_le (show 0<=d by omega);have:=z6m h k (by omega) (by omega);exact this (by have:=Int.emod_eq_zero_of_dvd e;omega)
end SM
namespace L2
open PySem PySem.Spec PyProof.Rows SM
section
variable {prog:Program} {w:World} {B:Around} {it:Addr} {fp wr:List Addr} {GG:Array GenState->Array GenState->Prop} {n:Nat} {PV:Nat->Value->Prop} {SV:Nat->Shared->Prop} {RR:Result->Shared->Prop}
end
section
variable {prog:Program} {w:World} {A:Around} {E:Value->Shared->Prop} {s:Shared}
end
section
variable {X:Cx}
end
section
variable {X:Cx}
theorem y1U (hc:X.calm=true):CallR X (.builtin "max") (fun vs H Q=>∃(a:Addr) (ns:List Int),vs=[.ref a]/\SqL X.K H a (ns.map V.int)/\ns≠[]/\∀M,M∈ns->(∀z∈ns,z<=M)->Q (.int M) H):=by
 intro pins s σ H vs us Q I r h;obtain⟨a,ns,rfl,hq,hn,q⟩:=h;obtain⟨u,rfl,r1⟩:=Vals.one r;cases r1;obtain⟨its,rv,pl,hz⟩:=I.list hq;have hi:IntsAre its ns:=wX rv;obtain⟨xs,ex⟩:=hi.allInts.items;have hns:ns=xs.toList.map (·.1):=by rw[←hi.numsOf,←nums_intItems,←ex]
 have hsz:xs.size=ns.length:=by rw[hns,u3z,u4P]
 have ln:0<ns.length:=List.length_pos_iff.mpr hn;have hl:=pl.isList;rw[ex] at hl;have sz:(intItems xs).size=xs.size:=by simp [intItems]
 refine call_max_walkS (iter_intList hl fun s2 e st hfp ne=>?_);have WS:=(Walks.list (prog:=X.prog) (w:=X.w) (A:=X.A.in1) (I.ok.hd hc) s.heap.objs.size a ne (intItems xs)).toS;refine⟨_,_,_,_,_,_,_,_,rfl,WS,st,hfp,by rw[sz];omega,CmpOf.ints_gt (numAt xs) fun _ _=>intItems_at,fun v s' pv mv=>?_⟩;subst e;rw[sz] at pv;obtain⟨t,rfl⟩:=intItems_at pv;obtain⟨b1,b2⟩:=argBest_gt (numAt xs) (xs.size-1);rw[Moved.eq_with mv];refine⟨.int _,H,I.kept fun b o e=>mv.heap b o (fun z=>?_) (u3v _ e),⟨t,rfl⟩,q _ ?_ fun y hy=>?_⟩
 ·exact absurd (u4D e) (by rw[u4O.mp z];exact u5n _)
 ·rw[hns,numAt_eq];exact getD_mem (by rw[u3z,u4P];omega)
 ·rw[hns] at hy;obtain⟨j,hj,rfl⟩:=mem_getD hy;rw[u3z,u4P] at hj;rw[←numAt_eq];exact b2 j (by omega)
end
section
variable {prog:Program} {w:World} {B:Around} {E:Value->Shared->Prop} {s:Shared}
theorem z2B {J tu:Addr} {k:Nat} {its:Array Value} {v:Value} {Q:Value->Shared->Prop} (hj:s.heap.IsTupleIter J tu k) (hu:s.heap.IsTuple tu its) (hv:its[k]?=some v)
  (q:∀h',h'.IsTupleIter J tu (k+1)->u5x J s.heap h'->Q v { s with heap:=h' }):wpAny (model prog w) B (u4y (.ref J)) Q E s:=by
 have ty:=hj.typeIs;obtain⟨oj,ej,cj,dj⟩:=id hj;obtain⟨ou,eu,_,mu,du⟩:=hu;unfold u4y;refine u3r (u5J (name:=u3t "__next__") ty u5z (u5S u5z ty PySem.F.entry_tuple_iterator_next ?_ (PySem.F.args_tuple_iterator_next_1 _)));show wpAny _ _ (field (.ref J) 0 >>= _) _ _ s;refine u3r (u5t ej dj (x:=.ref tu) rfl ?_);show wpAny _ _ (if (u4J tu == u6W)=true then _ else _) _ _ s;rw[if_neg (show ¬((u4J tu == u6W)=true) from u4i)];show wpAny _ _ (field (.ref J) 1 >>= _) _ _ s;refine u3r (u5t ej dj (x:=.int k 0) rfl ?_);show wpAny _ _ (seqItems? (.ref tu) >>= _) _ _ s;refine u3r (u5b eu du ?_);simp only [hv,u6Z];refine u3r (wpAny_setField ej dj (by simp) (u3u ⟨v,rfl,u3u (q _ ?_ (u5M ..))⟩));exact⟨_,u4x _ ej (Obj.isFreed_of_fields (u5X dj _)),(Obj.cls_mapFields ..).trans cj,by rw[u5X dj];simp [rawInt]⟩
theorem y0I {J tu:Addr} {k:Nat} {its:Array Value} {Q:Value->Shared->Prop} (hh:B.handled=none) (hj:s.heap.IsTupleIter J tu k) (hu:s.heap.IsTuple tu its) (hv:its[k]?=none)
  (q:∀h' x,Heap.ExtBut J s.heap h'->(∃o,h'.get? x=some o/\o.cls=.type "StopIteration")->E (.ref x) { s with heap:=h' }):wpAny (model prog w) B (u4y (.ref J)) Q E s:=by
 have ty:=hj.typeIs;obtain⟨oj,ej,cj,dj⟩:=id hj;obtain⟨ou,eu,_,mu,du⟩:=hu;unfold u4y;refine u3r (u5J (name:=u3t "__next__") ty u5z (u5S u5z ty PySem.F.entry_tuple_iterator_next ?_ (PySem.F.args_tuple_iterator_next_1 _)));show wpAny _ _ (field (.ref J) 0 >>= _) _ _ s;refine u3r (u5t ej dj (x:=.ref tu) rfl ?_);show wpAny _ _ (if (u4J tu == u6W)=true then _ else _) _ _ s;rw[if_neg (show ¬((u4J tu == u6W)=true) from u4i)];show wpAny _ _ (field (.ref J) 1 >>= _) _ _ s;refine u3r (u5t ej dj (x:=.int k 0) rfl ?_);show wpAny _ _ (seqItems? (.ref tu) >>= _) _ _ s;refine u3r (u5b eu du ?_);simp only [hv,u6Z];refine u3r (wpAny_rule (u3r (wpAny_setField ej dj (by simp) ?_)));show wpAny (model prog w) _ (newExc (.type "StopIteration") [] >>= _) _ _ _;refine u3r ?_;unfold newExc newTuple;refine u3r (u4r ?_);refine u3r (m:=firstArgMember _ _) (wpAny_of_eq (a:=u6W) rfl ?_);refine u4r ?_;unfold raiseNew;refine u3r (wpAny_handled ?_);rw[hh];refine u3r (u3u (wpAny_throw (q _ _ (((u5M ..).extBut.push _).push _) ⟨_,u4C _ rfl,rfl⟩)))
end
section
variable {prog:Program} {w:World} {B:Around} {E:Value->Shared->Prop} {s:Shared}
end
noncomputable def y7v (K:u3q) (a:Addr) (n:Nat) (H:Hp):Prop:=∃xs,SqT K H a xs/\xs.length=n
noncomputable def y7c (K:u3q) (a:Addr) (n:Nat):It:=Itp n (y7v K a n) fun i H u v=>u=.int i/\∀xs,SqT K H a xs->xs[i]?=some v
noncomputable def y6P (K:u3q) (ta:TE):TI:=fun σ H R=>ta σ H fun x H1=>∃a xs,x=.ref a/\SqT K H1 a xs/\R (y7c K a xs.length) H1
section
variable {X:Cx} {es:List Expr} {k:Nat} {tpos:Pos}
end
theorem ko {K:u3q} {ta:TE} {σ:St} {H:Hp} {R:It->Hp->Prop}:y6P K ta σ H R=ta σ H fun x H1=>∃a xs,x=.ref a/\SqT K H1 a xs/\R (y7c K a xs.length) H1:=rfl
theorem z3y:∀ {ys:List Str} {its:List Value},Vals (ys.map V.str) its->∃l:List (Str×Tok),its=strValues l/\l.map (·.1)=ys
 | [],_,.nil=>⟨[],rfl,rfl⟩
 | y::ys,_,.cons r rs=>by
  obtain⟨t,rfl⟩:=r;obtain⟨l,rfl,e⟩:=z3y rs;exact⟨(y,t)::l,rfl,by simp [e]⟩
theorem z0B:∀l:List (Str×Tok),Vals (l.map fun p=>V.str p.1) (strValues l)
 | []=>.nil
 | p::l=>.cons ⟨p.2,rfl⟩ (z0B l)
section
variable {X:Cx}
theorem z6H:MtR X "str.join" (fun x vs H Q=>∃(sep:Str) (a:Addr) (ys:List Str),x=.str sep/\vs=[.ref a]/\SqL X.K H a (ys.map V.str)/\ys.toArray.foldl (· + ·.length+sep.length) 0<=u4L/\(u5q sep ys).length<=u4L/\Q (.str (u5q sep ys)) H):=by
 intro pins s σ H x vs v us Q I rx rs h;obtain⟨sep,a,ys,rfl,rfl,hq,hz,hg,q⟩:=h;obtain⟨t,rfl⟩:=rx;obtain⟨u,rfl,r1⟩:=Vals.one rs;cases r1;obtain⟨its,rv,pl,_⟩:=I.list hq;obtain⟨l,rfl,rfl⟩:=z3y rv;refine call_meets PySem.F.slot_str_join (u6j _ _ _) PySem.F.entry_str_join (PySem.F.args_str_join_2 _ _) (meets_str_join_list sep t a l (by simp only [Builtin.Str.tooLong];exact decide_eq_false (Nat.not_lt.mpr hz))) ⟨pl.isList,?_⟩
 match l,hg,q with
 | [],hg,q=>exact⟨hg,.str _,H,I.tok _,⟨_,rfl⟩,q⟩
 | [p],_,q=>exact⟨.str p.1,H,I,⟨_,rfl⟩,q⟩
 | p::p2::l,hg,q=>exact⟨hg,.str _,H,I.tok _,⟨_,rfl⟩,q⟩
theorem z7g:MtR X "str.split" (fun x vs H Q=>∃(z y:Str),x=.str z/\vs=[.str y]/\(y.length == 0)=false/\z.length+10<=u4L/\∀D,H D=none->Q (.ref D) (upd H D (.lst ((Txt.split z y).map V.str)))):=by
 intro pins s σ H x vs v us Q I rx rs h;obtain⟨z,y,rfl,rfl,hy,hz,q⟩:=h;obtain⟨t,rfl⟩:=rx;obtain⟨w,rfl,u,rfl⟩:=Vals.one rs;have ln:(Builtin.Str.partsBetween z (u4s z y 0 z.length (z.length+1)) y.length).length<=u4L:=by
  have:=PySem.StrLaws.occ_length_le z y 0 z.length (z.length+1);simp only [Builtin.Str.partsBetween,u3z,List.length_zip,u3x,u3s,u4G];omega
 have fin:∀(l:List (Str×Tok)) (tk:Nat),l.map (·.1)=Txt.split z y->EP X pins σ Q (.ref s.heap.objs.size) { s with toks:=tk,heap:=s.heap.push { cls:=.type "list",data:=.seq (strValues l).toArray } }:=fun l tk e=>by
  have e2:(Txt.split z y).map V.str=l.map fun p=>V.str p.1:=by rw[←e,List.map_map];rfl
  have ll:l.length<=u4L:=by
   have:l.length=(Txt.split z y).length:=by rw[←e,u3z]
   rw[this];unfold Txt.split;split
   ·show 1<=u4L;decide
   ·split
    ·show 1<=u4L;decide
    ·exact ln
  have q2:=q _ I.fresh;rw[e2] at q2;exact⟨.ref _,_,I.lnew (t':=tk) (z0B l) (by rw[u3z];exact ll),rfl,q2⟩
 cases h1:(decide (z.length<y.length) || decide (u5A z<u5A y)) with
 | true=>
  refine call_meets u5N (u6j _ _ _) u5v (PySem.F.args_str_split_2 _ _) (meets_str_split_cannot_occur z y t u h1) ?_;exact fin [(z,t)] s.toks (by unfold Txt.split;rw[if_pos h1];rfl)
 | false=>
  cases h2:(u4s z y 0 z.length (z.length+1)).isEmpty with
  | true=>
   refine call_meets u5N (u6j _ _ _) u5v (PySem.F.args_str_split_2 _ _) (meets_str_split_not_found z y t u h1 hy h2) ?_;exact fin [(z,t)] s.toks (by unfold Txt.split;rw[if_neg (by rw[h1];decide),if_pos h2];rfl)
  | false=>
   refine call_meets u5N (u6j _ _ _) u5v (PySem.F.args_str_split_2 _ _) (meets_str_split_sep z y t u h1 hy h2 (by omega) ln) ?_;rw[strsFrom_eq];exact fin _ _ (by rw[numbered_texts];unfold Txt.split;rw[if_neg (by rw[h1];decide),if_neg (by rw[h2];decide)])
theorem y6:CallR X (.type "int") (fun xs H Q=>∃z n,xs=[.str z]/\intText? z=some n/\z.length<=640/\Q (.int n) H):=by
 intro pins s σ H xs us Q I r h;obtain⟨z,n,rfl,e,hl,q⟩:=h;obtain⟨u,rfl,t,rfl⟩:=Vals.one r;exact PySem.W.KIN.call_text e hl ⟨.int n,H,I.tok _,⟨_,rfl⟩,q⟩
end
noncomputable def Asc (z:Str):Prop:=z.cps.all (· < 128)=true
noncomputable def Itc (z:Str):It:=⟨fun i _=>i<z.cps.size,fun i H x H'=>H'=H/\∃c,z.cps[i]?=some c/\x=.str ⟨#[c]⟩,fun i _=>z.cps.size<=i⟩
theorem z8P {P:Program} {w:World} {K:u3q} {tg:Expr} (z:Str) (t:Tok) (J:Addr):Turn P w K tg (Itc z) [J] J (fun i h=>h.IsStrIter J "str_ascii_iterator" z t i) where
 mem:=by simp
 obj:=fun i h st b hb=>by
  have eb:b=J:=by simpa using hb
  subst eb;obtain⟨o,e1,_,d1⟩:=st;exact⟨o,e1,fun v y=>by rw[d1] at y;cases y⟩
 keep:=fun i h h' st k=>let ⟨o,e1,r⟩:=st;⟨o,k J (by simp) o e1,r⟩
 item:=by
  intro X hP hw hK hc i pins s σ H E I hf st hg;subst hP hw hK;have hi:i<z.cps.size:=hg;have hx:z.cps[i]?=some z.cps[i]:=Array.getElem?_eq_getElem hi;obtain⟨f0,f1,f2,f3,f4,f5⟩:=hf J (by simp);refine wpAny_pyNext_ascii_item st hx fun h' st' sb=>?_;have I1:Inv X pins σ H { s with heap:=h',toks:=s.toks+1 }:=I.turned (t':=s.toks+1) (fun b o hb e=>(sb.2 b hb).trans e) f0 f1 f3 f4 f5;obtain⟨o,e1,c1,d1⟩:=id st';exact⟨_,rfl,y0s (s:={ s with heap:=h',toks:=s.toks+1 }) e1 c1 d1 (by decide) ⟨.str ⟨#[z.cps[i]]⟩,H,I1,⟨_,rfl⟩,⟨rfl,z.cps[i],hx,rfl⟩,st',fun b hb=>(hf b hb).1⟩⟩
 done:=by
  intro X hP hw hK hc i pins s σ H E I hf st hg;subst hP hw hK;have hi:z.cps.size<=i:=hg;obtain⟨f0,f1,f2,f3,f4,f5⟩:=hf J (by simp);exact wpAny_pyNext_ascii_end (I.ok.hd hc) st (Array.getElem?_eq_none hi) fun h' eb=>⟨rfl,I.turned (t':=s.toks) (fun b o hb e=>eb b o hb e) f0 f1 f3 f4 f5⟩
 self:=fun _ _ _ _ _ st h=>wpAny_pyIter_striter_ascii st h
noncomputable def y7W (tl:TE):TI:=fun σ H R=>tl σ H fun x H1=>∃z,x=.str z/\Asc z/\R (Itc z) H1
theorem z3S {tl:TE} {σ:St} {H:Hp} {R:It->Hp->Prop}:y7W tl σ H R=tl σ H fun x H1=>∃z,x=.str z/\Asc z/\R (Itc z) H1:=rfl
section
variable {X:Cx} {tg:Expr}
theorem y3c {l:Expr} {tl:TE} (hl:PE X l tl):PI X tg l (y7W tl):=by
 intro pins s σ H R I h;refine thn (hl pins s σ H _ I h) fun v s1 ⟨x,H1,I1,r1,q1⟩=>?_;obtain⟨z,rfl,hz,q⟩:=q1;obtain⟨t,rfl⟩:=r1;refine wpAny_pyIter_ascii hz ?_;refine⟨s1.heap.objs.size,[s1.heap.objs.size],_,_,H1,rfl,I1.kept (t':=s1.toks) fun b o e=>u3v _ e,z8P z t _,⟨_,u4C _ rfl,rfl,rfl⟩,fun b hb=>?_,q⟩;have eb:b=s1.heap.objs.size:=by simpa using hb
 rw[eb];exact I1.fpOk (u3y _) (I1.hok.fresh (u3y _))
noncomputable def CS (mg:Str->Option Value) (x:Str) (z:Str):Prop:=∃t,mg x=some (.str z t)
theorem y6U {K:u3q} {h:Heap} {mg:Str->Option Value} {x z:Str} {t:Tok} (X:K.In h) (G:h.Ns u4z mg) (a:PySem.W.nsIn K u4z x=some (some (.str z t))):CS mg x z:=⟨t,PySem.W.mg_of X G a⟩
theorem y4W {x z:Str} {pos:Pos} (hg:Gl X x) (h:CS X.mg x z) (hd:(x == ("__debug__" : Str))=false:=by decide):PE X (.Name x pos) (tC (.str z)):=by
 obtain⟨t,e⟩:=h;exact xN hg e ⟨t,rfl⟩ hd
end
theorem z5V {σ:St} {H:Hp} {Q:VK} {z:Str} {g:TG} {tt:TT} {te:TE} {own:List Str} {fr:List Nat} (Sv:St->Prop) (Pv:Addr->Nat->List V->Hp->Prop) (hS:Sv (st0 own fr σ))
  (h0:∀D,H D=none->Pv D 0 [] (upd H D (.lst [])))
  (hs:∀D i c ys σ H',z.cps[i]?=some c->Sv σ->H' D=some (.lst ys)->ys.length<=i->Pv D i ys H'->g (.str ⟨#[c]⟩) σ H' fun σ2 H2=>tt σ2 H2 fun b H3=>if b=true then te σ2 H3 fun y H4=>CompP Sv Pv D i σ2 y H4 else we Sv Pv D (i+1) σ2 H3)
  (hd:∀D ys H',H' D=some (.lst ys)->Pv D z.cps.size ys H'->Q (.ref D) H'):z1M (Itc z) g tt te own fr σ H Q:=by
 intro D hD;refine⟨fun i m σ H=>m=z.cps.size-i/\i<=z.cps.size/\we Sv Pv D i σ H,⟨_,rfl,u4q _,hS,[],zH,u3y _,h0 D hD⟩,?_⟩;rintro i m σ1 H1 ⟨rfl,hi,hs1,ys,hy,hy2,p⟩;by_cases hlt:i<z.cps.size
 ·refine .inr ⟨hlt,we Sv Pv D (i+1),fun σ' H' p'=>⟨z.cps.size-(i+1),by omega,rfl,hlt,p'⟩,fun x H' y=>?_⟩;obtain⟨e,c,ec,ex⟩:=y;subst e ex;exact hs D i c ys σ1 _ ec hs1 hy hy2 p
 ·have e:i=z.cps.size:=by omega
  subst e;exact .inl ⟨u3y _,hd D ys H1 hy p⟩
end L2
namespace SM
open L2 PySem PySem.Builtin.Str
noncomputable def tx (l:List Nat):Str:=⟨l.toArray⟩
theorem yn (z:Str):tx z.cps.toList=z:=by
 cases z;simp [tx]
theorem z0C {y z:Str} (h:y.cps.toList=z.cps.toList):y=z:=by
 rw[←yn y,←yn z,h]
noncomputable def spl (c:Nat):List Nat->List (List Nat)
 | []=>[[]]
 | x::xs=>if x=c then []::spl c xs else match spl c xs with
  | h::t=>(x::h)::t
  | []=>[[x]]
theorem z2h (c:Nat):∀l:List Nat,∃h t,spl c l=h::t
 | []=>⟨[],[],rfl⟩
 | x::xs=>by
  obtain⟨h,t,e⟩:=z2h c xs;unfold spl;split
  ·exact⟨_,_,rfl⟩
  ·rw[e];exact⟨_,_,rfl⟩
noncomputable def yc (c:Nat):List Nat->Nat->List Nat
 | [],_=>[]
 | x::xs,k=>if x=c then k::yc c xs (k+1) else yc c xs (k+1)
theorem xA (z:Str) (i j:Nat):strSub z i j=tx ((z.cps.toList.drop i).take (j-i)):=by
 apply z0C;simp [strSub,tx]
theorem z0h (z:Str) (c:Nat):∀(l:List Nat) (k i:Nat),z.cps.toList.drop k=l->k+l.length=z.length->i<=k->
  (((i::(yc c l k).map (· + 1)).zip (yc c l k++[z.length])).map fun (a,b)=>strSub z a b)=match spl c l with
   | h::t=>tx ((z.cps.toList.drop i).take (k-i)++h)::t.map tx
   | []=>[]
 | [],k,i,hd,hl,hi=>by
  simp only [yc,spl,List.map_nil,u5a,List.zip_cons_cons,List.zip_nil_left,u4j,u5l];rw[xA];have:z.length=k:=by simpa using hl.symm
  rw[this]
 | x::xs,k,i,hd,hl,hi=>by
  have hd':z.cps.toList.drop (k+1)=xs:=by rw[←List.tail_drop,hd];rfl
  have hl':k+1+xs.length=z.length:=by rw[u3x] at hl;omega
  have hx:z.cps.toList[k]?=some x:=by
   have:(z.cps.toList.drop k)[0]?=some x:=by rw[hd];rfl
   rw[List.getElem?_drop] at this;exact this
  obtain⟨h,t,e⟩:=z2h c xs;by_cases c1:x=c
  ·have ih:=z0h z c xs (k+1) (k+1) hd' hl' (u3y _);rw[e] at ih;simp only [Nat.sub_self,List.take_zero,u5a] at ih;simp only [yc,spl,c1,if_true,u4j,u5G,List.zip_cons_cons,u5l];rw[ih,xA,e];rfl
  ·have ih:=z0h z c xs (k+1) i hd' hl' (by omega);rw[e] at ih;simp only [yc,spl,c1,if_false,e];rw[ih];have e2:(z.cps.toList.drop i).take (k+1-i)=(z.cps.toList.drop i).take (k-i)++[x]:=by
    rw[show k+1-i=(k-i)+1 by omega,u4N,List.getElem?_drop,show i+(k-i)=k by omega,hx];rfl
   simp only [e2,u4m,List.singleton_append]
theorem z2g (z:Str) (c k:Nat) {x:Nat} {xs:List Nat} (hd:z.cps.toList.drop k=x::xs):subAt z ⟨#[c]⟩ k=true ↔ x=c:=by
 have e:(z.cps.extract k (k+1)).toList=[x]:=by
  rw[Array.toList_extract,List.extract_eq_take_drop,show k+1-k=1 by omega,hd];rfl
 unfold subAt;show (z.cps.extract k (k+1) == #[c])=true ↔ _;rw[beq_iff_eq,←Array.toList_inj,e];simp
theorem z3F (z:Str) (c:Nat):∀(l:List Nat) (k:Nat) (st:Array Nat×Nat),z.cps.toList.drop k=l->k+l.length=z.length->st.1.size<=k->st.2<=k->
  (forIn (u6O k (l.length+1)) st (u4V z ⟨#[c]⟩ z.length (z.length+1))).run.fst.toList=st.1.toList++yc c l k
 | [],k,st,hd,hl,h1,h2=>by
  have hk:k=z.length:=by simpa using hl
  show (forIn [k] st (u4V z ⟨#[c]⟩ z.length (z.length+1))).run.fst.toList=_;rw[u6J];unfold u4V;rw[if_neg (fun h=>by have:=h.1.2;simp [u6N] at this hk;omega)];simp [yc]
 | x::xs,k,st,hd,hl,h1,h2=>by
  have hd':z.cps.toList.drop (k+1)=xs:=by rw[←List.tail_drop,hd];rfl
  have hl':k+1+xs.length=z.length:=by rw[u3x] at hl;omega
  show (forIn (k::u6O (k+1) (xs.length+1)) st (u4V z ⟨#[c]⟩ z.length (z.length+1))).run.fst.toList=_;rw[u6J];by_cases c1:x=c
  ·have hb:u4V z ⟨#[c]⟩ z.length (z.length+1) k st=pure (u5m (st.fst.push k,k+1)):=by
    unfold u4V;exact if_pos ⟨⟨⟨by omega,h2⟩,by show k+1<=z.length;omega⟩,(z2g z c k hd).mpr c1⟩
   rw[hb];have ih:=z3F z c xs (k+1) (st.fst.push k,k+1) hd' hl' (by simp;omega) (u3y _);simp only [yc,c1,if_true];refine Eq.trans ih ?_;simp
  ·have hb:u4V z ⟨#[c]⟩ z.length (z.length+1) k st=pure (u5m (st.fst,st.snd)):=by
    unfold u4V;exact if_neg fun h=>c1 ((z2g z c k hd).mp h.2)
   rw[hb];have ih:=z3F z c xs (k+1) (st.fst,st.snd) hd' hl' (by show st.1.size<=k+1;omega) (by show st.2<=k+1;omega);simp only [yc,c1,if_false];exact ih
theorem z3G (z:Str) (c:Nat):occurrences z ⟨#[c]⟩ 0 z.length (z.length+1)=yc c z.cps.toList 0:=by
 rw[StrLaws.occ_eq];have:=z3F z c z.cps.toList 0 (#[],0) rfl (by simp [u6N]) (u3y _) (u3y _);have e:z.length+1-0=z.cps.toList.length+1:=by simp [u6N]
 rw[e,this];simp
theorem z9Y (z:Str) (c:Nat) (hc:c<256):Txt.split z ⟨#[c]⟩=(spl c z.cps.toList).map tx:=by
 have main:partsBetween z (occurrences z ⟨#[c]⟩ 0 z.length (z.length+1)) 1=(spl c z.cps.toList).map tx:=by
  rw[z3G];unfold partsBetween;have:=z0h z c z.cps.toList 0 0 rfl (by simp [u6N]) (u3y _);obtain⟨h,t,e⟩:=z2h c z.cps.toList;rw[e] at this ⊢;simp only [Nat.sub_self,List.take_zero,u5a] at this;exact this
 have one:yc c z.cps.toList 0=[]->(spl c z.cps.toList).map tx=[z]:=fun e=>by
  rw[←main,z3G,e];have e3:(z.cps.toList.take z.cps.size)=z.cps.toList:=u5C (by simp);simp [partsBetween,xA,u6N,e3,yn]
 unfold Txt.split;split
 ·rename_i h
  have k1:u5A ⟨#[c]⟩=1:=by simp [u5A,hc]
  have kz:1<=u5A z:=by unfold u5A;split <;> (try split) <;> decide
  have lz:z.length=0:=by
   rw[k1,Bool.or_eq_true,decide_eq_true_eq,decide_eq_true_eq] at h;have e1:(⟨#[c]⟩:Str).length=1:=rfl;omega
  have ez:z.cps.toList=[]:=u5H (by simpa [u6N] using lz);rw[one (by rw[ez];rfl)]
 ·split
  ·rename_i h
   rw[z3G] at h;rw[one (List.isEmpty_iff.mp h)]
  ·exact main
noncomputable def glu (c:Nat):List (List Nat)->List Nat
 | []=>[]
 | [p]=>p
 | p::q::r=>p++c::glu c (q::r)
theorem z9a {c:Nat}:∀ {p:List Nat},c∉p->∀l,spl c (p++c::l)=p::spl c l
 | [],_,l=>by simp [spl]
 | x::p,h,l=>by
  have h1:x≠c:=fun e=>h (by simp [e]);have h2:c∉p:=fun e=>h (by simp [e]);have e:spl c (x::(p++c::l))=if x=c then []::spl c (p++c::l) else match spl c (p++c::l) with
   | h::t=>(x::h)::t
   | []=>[[x]]:=rfl
  rw[u5G,e,if_neg h1,z9a h2 l]
theorem z7B {c:Nat}:∀ {p:List Nat},c∉p->spl c p=[p]
 | [],_=>rfl
 | x::p,h=>by
  have h1:x≠c:=fun e=>h (by simp [e]);have h2:c∉p:=fun e=>h (by simp [e]);unfold spl;rw[if_neg h1,z7B h2]
theorem z9Z {c:Nat}:∀ {ps:List (List Nat)},ps≠[]->(∀p∈ps,c∉p)->spl c (glu c ps)=ps
 | [],h,_=>absurd rfl h
 | [p],_,h=>z7B (h p (by simp))
 | p::q::r,_,h=>by
  show spl c (p++c::glu c (q::r))=_;rw[z9a (h p (by simp)),z9Z (by simp) fun x hx=>h x (by simp [hx])]
theorem w6 (g:Array Nat):∀(ps:List Str) (acc:Array Nat),(ps.foldl (fun acc p=>acc++g++p.cps) acc).toList=acc.toList++ps.flatMap fun p=>g.toList++p.cps.toList
 | [],acc=>by simp
 | p::ps,acc=>by
  rw[List.foldl_cons,w6 g ps];simp
theorem y0t (c:Nat):∀ps:List Str,(glued ⟨#[c]⟩ ps).cps.toList=glu c (ps.map fun p=>p.cps.toList)
 | []=>by simp [glued,glu,Str.empty]
 | p::ps=>by
  have e:(glued ⟨#[c]⟩ (p::ps)).cps.toList=p.cps.toList++ps.flatMap fun q=>c::q.cps.toList:=by
   show ((ps.foldl (fun acc q=>acc ++ #[c]++q.cps) p.cps)).toList=_;rw[w6];simp
  rw[e];clear e
  induction ps generalizing p with
  | nil=>simp [glu]
  | cons q ps ih=>
   have:=ih q;simp only [u4j,glu,List.flatMap_cons] at this ⊢;rw[←this];simp
theorem y1A:∀m:Nat,0<m->∃ch r,Nat.toDigits 10 m=ch::r/\ch.toNat≠48:=by
 intro m
 induction m using Nat.strongRecOn with
 | _ m ih=>
  intro h0;by_cases h:m<10
  ·rw[Nat.toDigits_of_lt_base h];refine⟨_,[],rfl,?_⟩;have:∀d:Nat,d<10->0<d->(Nat.digitChar d).toNat≠48:=by decide
   exact this m h h0
  ·have hm:m%10<10:=Nat.mod_lt m (by decide);have t:Nat.toDigits 10 (m/10)++Nat.toDigits 10 (m%10)=Nat.toDigits 10 (10*(m/10)+m%10):=Nat.toDigits_append_toDigits (by decide) (by omega) hm;rw[Nat.div_add_mod] at t;obtain⟨ch,r,e,ne⟩:=ih (m/10) (by omega) (by omega);rw[←t,e];exact⟨ch,_,rfl,ne⟩
theorem z7y:∀(k m:Nat),m<10^(k+1)->(Nat.toDigits 10 m).length<=k+1
 | 0,m,h=>by
  rw[Nat.toDigits_of_lt_base (by simpa using h)];simp
 | k+1,m,h=>by
  by_cases h1:m<10
  ·rw[Nat.toDigits_of_lt_base h1];simp
  ·have hm:m%10<10:=Nat.mod_lt m (by decide);have t:Nat.toDigits 10 (m/10)++Nat.toDigits 10 (m%10)=Nat.toDigits 10 (10*(m/10)+m%10):=Nat.toDigits_append_toDigits (by decide) (by omega) hm;rw[Nat.div_add_mod] at t;have ih:=z7y k (m/10) (by rw[Nat.pow_succ] at h;omega);rw[←t,u3s,Nat.toDigits_of_lt_base hm];simp;omega
theorem z7f {n:Int} (h0:0<=n):∃l:List Nat,u3t (toString n)=tx l/\PySem.NumText.AllDigits l/\l≠[]/\((PySem.NumText.digitsVal l:Nat):Int)=n/\(l[0]?=some 48->l.length=1)/\∀k:Nat,n<10^(k+1)->l.length<=k+1:=by
 obtain⟨m,rfl⟩:=Int.eq_ofNat_of_zero_le h0;refine⟨(Nat.toDigits 10 m).map Char.toNat,?_,?_,?_,?_,?_,?_⟩
 ·rw[←yn (u3t _),PySem.W.KIN.signs_num]
 ·intro c hc;obtain⟨ch,hch,e⟩:=u4l.mp hc;rw[←e];exact PyProof.Rows.digit_range (Nat.isDigit_of_mem_toDigits (by decide) (by decide) hch)
 ·intro e;have:=List.map_eq_nil_iff.mp e;have h:=PySem.toDigits_len_ge 10 m;rw[this] at h;exact absurd h (by decide)
 ·rw[PySem.W.KIN.val_back]
 ·intro e;rcases Nat.eq_zero_or_pos m with rfl|hp
  ·rfl
  ·obtain⟨ch,r,e1,ne⟩:=y1A m hp;rw[e1] at e;exact absurd (by simpa using e) ne
 ·intro k hk;rw[u3z];refine z7y k m ?_;have e:((10^(k+1):Nat):Int)=10^(k+1):=by rw[Int.natCast_pow];rfl
  rw[←e] at hk;exact Int.ofNat_lt.mp hk
end SM
namespace L2
open PySem PySem.Spec PyProof.Rows
noncomputable def Rises (l:List Nat):Prop:=l.Pairwise (· < ·)
theorem Rises.lt {l:List Nat} (h:Rises l) {i k x y:Nat} (hi:l[i]?=some x) (hk:l[k]?=some y) (hik:i<k):x<y:=by
 obtain⟨h1,rfl⟩:=u4K.mp hi;obtain⟨h2,rfl⟩:=u4K.mp hk;exact List.pairwise_iff_getElem.mp h i k h1 h2 hik
theorem z3t {xs:Array Nat} {j:Nat} (h:Rises xs.toList):∀(f lo hi:Nat),lo<=hi->hi<=xs.size->hi-lo<=f->(∀k x,k<lo->xs[k]?=some x->x<j)->(∀k x,hi<=k->xs[k]?=some x->j<=x)->
  u4u.go xs j f lo hi<=xs.size/\(∀k x,k<u4u.go xs j f lo hi->xs[k]?=some x->x<j)/\∀k x,u4u.go xs j f lo hi<=k->xs[k]?=some x->j<=x
 | 0,lo,hi,h1,h2,h3,a,b=>by
  have:lo=hi:=by omega
  subst this;exact⟨h2,a,b⟩
 | f+1,lo,hi,h1,h2,h3,a,b=>by
  unfold u4u.go;split
  ·rename_i hlt
   have hm:(lo+hi)/2<xs.size:=by omega
   have em:xs[(lo+hi)/2]?=some xs[(lo+hi)/2]:=by simp [hm]
   have eg:xs.getD ((lo+hi)/2) j=xs[(lo+hi)/2]:=by simp [Array.getD,hm]
   dsimp only;rw[eg];split
   ·rename_i c
    refine z3t h f _ hi (by omega) h2 (by omega) (fun k x hk e=>?_) b;by_cases z:k=(lo+hi)/2
    ·subst z;rw[em] at e;cases e;exact c
    ·exact Nat.lt_trans (h.lt (by rw[u4R];exact e) (by rw[u4R];exact em) (by omega)) c
   ·rename_i c
    refine z3t h f lo _ (by omega) (by omega) (by omega) a (fun k x hk e=>?_);by_cases z:k=(lo+hi)/2
    ·subst z;rw[em] at e;cases e;omega
    ·have:=h.lt (by rw[u4R];exact em) (by rw[u4R];exact e) (show (lo+hi)/2<k by omega);omega
  ·have:lo=hi:=by omega
   subst this;exact⟨h2,a,b⟩
theorem vt {xs:Array Nat} (h:Rises xs.toList) (j:Nat):u4u xs j<=xs.size/\(∀k x,k<u4u xs j->xs[k]?=some x->x<j)/\∀k x,u4u xs j<=k->xs[k]?=some x->j<=x:=
 z3t h xs.size 0 xs.size (u4q _) (u3y _) (by omega) (fun k x hk=>by omega) fun k x hk e=>by
  have:=(Array.getElem?_eq_some_iff.mp e).1;omega
theorem z9F {xs:Array Nat} (h:Rises xs.toList) {i x:Nat} (e:xs[i]?=some x):u4u xs (x+1)=i+1:=by
 obtain⟨a,b,c⟩:=vt h (x+1);have hi:=(Array.getElem?_eq_some_iff.mp e).1;by_cases z1:u4u xs (x+1)<=i
 ·have:=c i x z1 e;omega
 by_cases z2:i+1<u4u xs (x+1)
 ·have hk:i+1<xs.size:=by omega
  have e2:xs[i+1]?=some xs[i+1]:=by simp [hk]
  have h1:=b (i+1) _ z2 e2;have h2:=h.lt (by rw[u4R];exact e) (by rw[u4R];exact e2) (Nat.lt_succ_self i);omega
 omega
theorem z9E {xs:Array Nat} (h:Rises xs.toList):u4u xs 0=0:=by
 obtain⟨a,b,c⟩:=vt h 0;by_cases z:0<u4u xs 0
 ·have hk:0<xs.size:=by omega
  have e2:xs[0]?=some xs[0]:=by simp [hk]
  have:=b 0 _ z e2;omega
 omega
theorem y1W {xs:Array Nat} (h:Rises xs.toList) {j:Nat} (m:j∈xs.toList):xs[u4u xs j]?=some j:=by
 obtain⟨i,hi,e⟩:=List.mem_iff_getElem.mp m;have e1:xs[i]?=some j:=by rw[←u4R,u4A hi,e]
 obtain⟨a,b,c⟩:=vt h j;by_cases z1:i<u4u xs j
 ·have:=b i j z1 e1;omega
 by_cases z2:u4u xs j=i
 ·rw[z2];exact e1
 have hk:u4u xs j<xs.size:=by
  have:=(Array.getElem?_eq_some_iff.mp e1).1;omega
 have e2:xs[u4u xs j]?=some xs[u4u xs j]:=by simp [hk]
 have h1:=c _ _ (u3y _) e2;have h2:=h.lt (by rw[u4R];exact e2) (by rw[u4R];exact e1) (show u4u xs j<i by omega);omega
theorem z4X {xs:Array Nat} (h:Rises xs.toList) {j:Nat} (m:j∉xs.toList):Rises (u6i.insertAt xs (u4u xs j) j).toList:=by
 obtain⟨a,b,c⟩:=vt h j;rw[u6i.toList_insertAt];generalize u4u xs j=p at a b c;have hb:∀x∈xs.toList.take p,x<j:=fun x hx=>by
  obtain⟨i,hi,e⟩:=List.mem_iff_getElem.mp hx;rw[List.getElem_take] at e;rw[u5F] at hi;exact b i x (by omega) (by rw[←u4R,u4A (by omega),e])
 have hc:∀x∈xs.toList.drop p,j<x:=fun x hx=>by
  obtain⟨i,hi,e⟩:=List.mem_iff_getElem.mp hx;rw[List.getElem_drop] at e;rw[u4w] at hi;have h1:=c (p+i) x (by omega) (by rw[←u4R,u4A (by omega),e]);have h2:x≠j:=fun z=>m (z▸u6R hx);omega
 unfold Rises at h ⊢;refine List.pairwise_append.mpr ⟨h.sublist (List.take_sublist _ _),List.pairwise_cons.mpr ⟨hc,h.sublist (List.drop_sublist _ _)⟩,fun x hx y hy=>?_⟩;rcases u3w.mp hy with rfl|hy
 ·exact hb x hx
 ·exact Nat.lt_trans (hb x hx) (hc y hy)
theorem z4L {t:u6i} (h:Rises t.place.toList) {j:Nat} (e:∀i,t.slot j≠.live i):j∉t.place.toList:=fun m=>by
 have:=y1W h m;unfold u6i.slot at e;simp [this] at e
theorem wS {t:u6i} (h:Rises t.place.toList) {ha:Nat->Int} {z:Int}:∀(f:Nat) (p:u6i.Probe) (j:Nat) (dm:Option Nat),(∀d,p.dummy=some d->d∉t.place.toList)->u6i.probe.go t ha z f p=some (.empty j dm)->j∉t.place.toList/\∀d,dm=some d->d∉t.place.toList
 | 0,p,j,dm,_,e=>by simp [u6i.probe.go] at e
 | f+1,p,j,dm,hp,e=>by
  have adv:∀q:u6i.Probe,(t.advance q).dummy=q.dummy:=fun q=>by
   unfold u6i.advance;split <;> rfl
  unfold u6i.probe.go at e;cases es:t.slot p.j with
  | empty=>
   rw[es] at e;cases e;exact⟨z4L h (fun i z=>by rw[es] at z;cases z),hp⟩
  | dummy=>
   rw[es] at e;refine wS h f _ j dm (fun d hd=>?_) e;rw[adv] at hd;cases hd;exact z4L h fun i z=>by rw[es] at z;cases z
  | live i=>
   rw[es] at e;dsimp only at e;split at e
   ·cases e
   ·exact wS h f _ j dm (fun d hd=>hp d (by rw[adv] at hd;exact hd)) e
theorem z3l {t:u6i} (h:Rises t.place.toList) {z:Int} {j:Nat} {b:Bool} (e:t.freeSlot z=some (j,b)):j∉t.place.toList:=by
 unfold u6i.freeSlot at e;split at e
 ·rename_i jj dm hq
  injection e with e;injection e with e1 e2;obtain⟨a,c⟩:=wS h _ _ _ _ (fun d hd=>by simp [u6i.probeStart] at hd) hq;subst e1;cases dm with
  | none=>exact a
  | some d=>exact c d rfl
 ·cases e
noncomputable def qh (led:Bool) (t:u6i):Prop:=t.led=led/\(t.plain=true->Rises t.place.toList)
theorem kK {led:Bool} {t:u6i} {n:Nat} (h:qh led t):qh led (t.standIn n):=⟨h.1,fun z=>by simp [u6i.standIn] at z⟩
theorem y5S {led:Bool} {t:u6i} {n:Nat} (h:qh led t):qh led (t.orStandIn n):=by
 unfold u6i.orStandIn;split
 ·exact h
 ·exact kK h
theorem y3z {led:Bool} {t:u6i} (h:qh led t) (es:Array (Int×Value)) (z:Int) (x:Value):qh led (layNew t es z x).2.1:=by
 unfold layNew;split
 ·rename_i j b e
  refine y5S ⟨h.1,fun hp=>?_⟩;exact z4X (h.2 hp) (z3l (h.2 hp) e)
 ·exact kK h
theorem z8a (n:Nat) (f:Nat->Option Nat):Rises (((u6X n).filterMap fun j=>(f j).map (j,·)).map (·.1)):=by
 have:List.Sublist (((u6X n).filterMap fun j=>(f j).map (j,·)).map (·.1)) (u6X n):=by
  generalize u6X n=l
  induction l with
  | nil=>simp
  | cons a l ih=>
   cases e:f a with
   | none=>simp only [u6c,e,Option.map_none];exact ih.trans (List.sublist_cons_self _ _)
   | some v=>simp only [u6c,e,Option.map_some,u4j];exact ih.cons₂ a
 exact (List.pairwise_lt_range (n:=n)).sublist this
theorem z9R {led:Bool} {t:u6i} (h:qh led t) (es:Array (Int×Value)) (n:Nat):qh led (relayAll t es n).2.1:=by
 unfold relayAll;split
 ·rename_i t' order e
  dsimp only;split
  ·unfold u6i.relaid u6i.laid at e;simp only [bind,Option.bind] at e;split at e
   ·cases e
   ·rename_i ow _
    cases e;refine⟨h.1,fun _=>?_⟩;dsimp only;exact z8a _ _
  ·exact kK h
 ·exact kK h
section
variable {prog:Program} {w:World}
noncomputable def kG (w:World):Bool:=!w.params.followText "set-order"
noncomputable def SetG (prog:Program) (w:World) (h:Heap) (a:Addr) (S:Int->Bool) (n:Nat):Prop:=
 ∃o es ep t,h.get? a=some o/\o.ExactSet/\o.data=.set es ep t/\ElemsOf (intKind prog w) es.toList/\(∀k,S k=true ↔ ∃e∈es.toList,(intKind prog w).is k e.2=true)/\es.size<scanBound/\t.fits es.size=true/\es.size=n/\qh (kG w) t
theorem SetG.keep {h h':Heap} {a:Addr} {S:Int->Bool} {n:Nat} (x:SetG prog w h a S n) (k:∀o,h.get? a=some o->h'.get? a=some o):SetG prog w h' a S n:=
 let ⟨o,es,ep,t,e,r⟩:=x
 ⟨o,es,ep,t,k _ e,r⟩
theorem SetG.congr {h:Heap} {a:Addr} {S S':Int->Bool} {n n':Nat} (x:SetG prog w h a S n) (e:∀k,S k=S' k) (en:n=n'):SetG prog w h a S' n':=by
 have:S=S':=funext e;subst this en;exact x
variable {A:Around} {E:Value->Shared->Prop} {s:Shared}
theorem z1r {h:Heap} {a:Addr} {o:Obj} {es:Array (Int×Value)} {ep:Nat} {t:u6i} (ho:h.get? a=some o) (hex:o.ExactSet) (hd:o.data=.set es ep t) {es':Array (Int×Value)} {t':u6i} {S':Int->Bool}
  (hel:ElemsOf (intKind prog w) es'.toList) (hmem:∀k,S' k=true ↔ ∃e∈es'.toList,(intKind prog w).is k e.2=true) (hb:es'.size<scanBound) (hf:t'.fits es'.size=true) (ht:qh (kG w) t') :
  (h.update a (Obj.putSet es' t')).get? a=some { o with data:=.set es' (ep+1) t' }/\SetG prog w (h.update a (Obj.putSet es' t')) a S' es'.size:=by
 have hg:=(SetOf_store (knd:=intKind prog w) ho hex hd hel hmem hb hf).1;exact⟨hg,_,es',ep+1,t',hg,hex,rfl,hel,hmem,hb,hf,rfl,ht⟩
theorem y1z {a:Addr} {S:Int->Bool} {n:Nat} {k:Int} {tk:Tok} {Q:Bool->Shared->Prop} (hS:SetG prog w s.heap a S n) (hroom:n+1<scanBound)
  (h:∀h' b,u5x a s.heap h'->SetG prog w h' a (fun k'=>S k' || decide (k'=k)) (if S k then n else n+1)->Q b { s with heap:=h' }) :
  wpAny (model prog w) A (setAddHashed a (.int k tk) ((intKind prog w).hash k)) Q E s:=by
 have hkey:(intKind prog w).is k (.int k tk)=true:=intKind_is _ _ _ _;have hsc:(Value.int k tk).scannable=true:=rfl;obtain⟨o,es,ep,t,ho,hex,hd,hel,hmem,hb,hf,rfl,ht⟩:=hS;unfold setAddHashed setAddHashedIn;refine wpAny_holding (u3r (u5U ho hd hf ?_));dsimp only;rw[byScan_of hsc hb hel,if_pos rfl];unfold setAddByScan;refine u3r (u3r (wpAny_rule (u3r (wpAny_setScan_of hkey ho hd hf hel ?_))));cases hr:List.findIdx? (fun e=>(intKind prog w).is k e.2) es.toList with
 | some j=>
  obtain⟨hj,hpj,_⟩:=List.findIdx?_eq_some_iff_getElem.mp hr;have hSk:S k=true:=(hmem k).mpr ⟨es.toList[j],u5T hj,hpj⟩;refine u3u (u3u ?_);have e:s = { s with heap:=s.heap }:=by cases s;rfl
  rw[e];refine h s.heap _ (u5x.refl a s.heap) ⟨o,es,ep,t,ho,hex,hd,hel,fun k'=>?_,hb,hf,by rw[if_pos hSk],ht⟩;rw[Bool.or_eq_true,decide_eq_true_eq,←hmem k'];exact⟨fun z=>z.elim id fun z=>z▸hSk,.inl⟩
 | none=>
  have hSk:¬S k=true:=fun z=>by
   obtain⟨e,he,hp⟩:=(hmem k).mp z;have:=List.findIdx?_eq_none_iff.mp hr e he;rw[hp] at this;cases this
  have hperm:=layNew_perm t es ((intKind prog w).hash k) (.int k tk);have hfits:=layNew_fits t es ((intKind prog w).hash k) (.int k tk);have htab:=y3z ht es ((intKind prog w).hash k) (.int k tk);dsimp only;generalize layNew t es ((intKind prog w).hash k) (.int k tk)=L at hperm hfits htab ⊢;obtain⟨es1,t1,wd,gave⟩:=L;dsimp only at hperm hfits htab ⊢;rw[Array.toList_push] at hperm;have hel1:ElemsOf (intKind prog w) es1.toList:=(hel.push hkey hsc).perm hperm;have hmem1:∀k',(S k' || decide (k'=k))=true ↔ ∃e∈es1.toList,(intKind prog w).is k' e.2=true:=mem_push_iff hkey hmem hperm;have hsz1:es1.size=es.size+1:=by rw[←u4P,hperm.length_eq,u3s,u4P];rfl
  have hb1:es1.size<scanBound:=by omega
  have fin:∀h' b,u5x a s.heap h'->SetG prog w h' a (fun k'=>S k' || decide (k'=k)) es1.size->Q b { s with heap:=h' }:=fun h' b hsb hS'=>h h' b hsb (by rw[if_neg hSk,←hsz1];exact hS');have hby:hashByValue 8 (.int k tk)=pure true:=hashByValue_scannable 8 hsc;refine u3r ?_;have g1:∀(b:Bool) (s₁:Shared) (Q':Unit->Shared->Prop),Q' () s₁->wpAny (model prog w) A (match b with|true=>rule "set.scan.the-table-gave-way" | false=>pure ()) Q' E s₁:=fun b s₁ Q' hq=>by cases b <;> first|exact u3u hq|exact wpAny_rule hq
  refine g1 gave _ _ ?_;have tail:∀t2:u6i,t2.fits es1.size=true->qh (kG w) t2->wpAny (model prog w) A (do
    storeSet a es1 t2
    if (!wd && t2.tooFull)=true then do
      (match (relayAll t2 es1 (u6i.grown es1.size)).2.2 with|true=>rule "set.scan.the-table-gave-way" | false=>pure ())
      storeSet a (relayAll t2 es1 (u6i.grown es1.size)).1 (relayAll t2 es1 (u6i.grown es1.size)).2.1
      pure (some true)
     else pure (some true)) (fun (r:Option Bool) s'=>wpAny (model prog w) A (match r with|some added=>pure added|none=>setAddHashedIn a (.int k tk) ((intKind prog w).hash k) 99999) Q E s') E s:=by
   intro t2 hf2 ht2;obtain⟨ho1,hS1⟩:=z1r ho hex hd hel1 hmem1 hb1 hf2 ht2;have hsb1:=u5M s.heap a (Obj.putSet es1 t2);refine u3r (wpAny_storeSet_of ho hd ?_ (fits_of_scanBound hb1));split
   ·have hp:=relayAll_perm t2 es1 (u6i.grown es1.size);have hfr:=relayAll_fits t2 es1 (u6i.grown es1.size);have htr:=z9R ht2 es1 (u6i.grown es1.size);generalize relayAll t2 es1 (u6i.grown es1.size)=Rl at hp hfr htr ⊢;obtain⟨es2,t3,gave2⟩:=Rl;dsimp only at hp hfr htr ⊢;have hsz:es2.size=es1.size:=by rw[←u4P,hp.length_eq,u4P]
    have hb2:es2.size<scanBound:=by omega
    refine u3r (g1 _ _ _ (u3r (wpAny_storeSet_of ho1 rfl ?_ (fits_of_scanBound hb2))));obtain⟨_,hS2⟩:=z1r ho1 hex rfl (hel1.perm hp) (fun k'=>(hmem1 k').trans ⟨fun⟨e,he,q⟩=>⟨e,hp.mem_iff.mpr he,q⟩,fun⟨e,he,q⟩=>⟨e,hp.mem_iff.mp he,q⟩⟩) hb2 hfr htr;rw[hsz] at hS2;exact u3u (u3u (fin _ _ (hsb1.trans (u5M _ a _)) hS2))
   ·exact u3u (u3u (fin _ _ hsb1 hS1))
  split
  ·refine u3r ?_;rw[hby];refine u3u ?_;refine tail _ ?_ ?_
   ·exact hfits
   ·exact htab
  ·refine u3r (u3u ?_);exact tail _ hfits htab
end
section
variable {prog:Program} {w:World} {A:Around}
theorem z9j {R:Result->Shared->Prop} {I:Addr} {fp wr:List Addr} {G:Array GenState->Array GenState->Prop} {n:Nat} {P:Nat->Value->Prop} {St:Nat->Shared->Prop} (W:WalksS prog w A.in1 I fp wr G n P St) (S:Addr) (hSf:S∉fp)
  (val:Nat->Int) (hval:∀i v,P i v->∃t,v=.int (val i) t) (hb:n+1<scanBound):∀(k i:Nat) (s:Shared),n-i=k->i<=n->St i s->
   SetG prog w s.heap S (fun k'=>(firstMet val i).any (· == k')) (firstMet val i).length->
   (∀s',Moved (S::wr) G s s'->SetG prog w s'.heap S (fun k'=>(firstMet val n).any (· == k')) (firstMet val n).length->R (.ok (.ret .none)) s')->
   codeAny (model prog w) A (.builtin "set.update.loop" ⟨[.ref S,.ref I],[]⟩) R s:=by
 have hSw:S∉wr:=fun h=>hSf (W.sub _ h);have hsub:∀b∈wr,b∈S::wr:=fun b hb=>u4Z _ hb;intro k
 induction k with
 | zero=>
  intro i s hk hi hst hS hR;obtain rfl:i=n:=by omega
  refine u5u PyProof.Rows.F.entry_set_update_loop ?_;rw[u5f PyProof.Rows.F.plain_set_update_loop _];refine u3r (m:=pyNext (.ref I)) (W.done s _ _ hst fun s' hm=>?_);exact u3u (hR s' (hm.mono hsub) (hS.keep fun o e=>hm.heap S _ hSw e))
 | succ k ih=>
  intro i s hk hi hst hS hR;have hlt:i<n:=by omega
  refine u5u PyProof.Rows.F.entry_set_update_loop ?_;rw[u5f PyProof.Rows.F.plain_set_update_loop _];refine u3r (m:=pyNext (.ref I)) (W.item i s _ _ hlt hst fun v s' hP hst' hm=>?_);obtain⟨t,rfl⟩:=hval i v hP;have hS':=hS.keep fun o e=>hm.heap S _ hSw e;have hroom:(firstMet val i).length+1<scanBound:=by have:=firstMet_length_le val i;omega
  refine u3r (m:=holding [Value.int (val i) t] (setAdd S (.int (val i) t))) (wpAny_holding ?_);unfold setAdd;refine wpAny_holding (u3r ((intKind prog w).pyHash (k:=val i) (intKind_is _ _ _ _) ?_));refine y1z (s:={ s' with toks:=s'.toks+1 }) hS' hroom fun h' b hsb hS2=>?_;have hSi:SetG prog w h' S (fun k'=>(firstMet val (i+1)).any (· == k')) (firstMet val (i+1)).length:=hS2.congr (fun k'=>by rw[firstMet_succ,step_any]) (by rw[firstMet_succ,step_length]);refine u3u ⟨plainId_quiet PyProof.Rows.F.plain_set_update_loop _,ih (i+1) _ (by omega) hlt (W.frame _ s' _ _ hst' (Nat.le_succ _) fun b hb o e=>?_) hSi fun s'' hm'' hS''=>?_⟩
  ·rw[hsb.2 b (fun h:b=S=>hSf (by rw[←h];exact hb))];exact e
  ·refine hR s'' (Moved.trans W.gtrans ((hm.mono hsub).then_heap (Nat.le_succ _) fun b o hb e=>?_) hm'') hS'';rw[hsb.2 b (fun h:b=S=>hb (by rw[h];exact u6L))];exact e
theorem y2b {a:Value} {E:Value->Shared->Prop} {s:Shared} {Q₁:Value->Shared->Prop}
  (h:Q₁ (.ref s.heap.objs.size) { s with heap:=s.heap.push { cls:=.type "set",dict:=none,data:=.set #[] 0 (.fresh 0 0 (kG w)) } }) :
  codeAny (model prog w) A (.call (.builtin "set.__new__") ⟨[.type "set",a],[]⟩) (wants Q₁ E) s:=by
 refine codeAny_of_tree ?_;refine u3r (m:=checkBuiltinCall "set.__new__" ⟨[.type "set",a],[]⟩) (wpAny_of_eq (PySem.F.newCall_set_1 a) (u3u ⟨plainId_quiet PySem.F.plain_set_new _,u5u PySem.F.entry_set_new ?_⟩));rw[u5f PySem.F.plain_set_new _];unfold Builtin.«set.__new__» Builtin.Frozenset.newClass;have hsub:=sub_set_self;obtain⟨hp,g,d,tk,os⟩:=s;dsimp only
 wp_walk
 refine wpAny_askSetting (u3u ?_);dsimp only;simp only [newObj];refine u3r (wpAny_alloc (u3u ?_));exact u3u h
end
section
variable {prog:Program} {w:World} {A:Around} {E:Value->Shared->Prop} {s:Shared}
theorem y0Z {l:Addr} {items:Array Value} {ns:List Int} {s1:Shared} {S:Addr} {R:Result->Shared->Prop} (hh:A.handled=none) (hl:s1.heap.IsList l items) (hi:IntsAre items.toList ns) (hb:items.size+1<scanBound) (hlS:l≠S)
  (hS:s1.heap.get? S=some { cls:=.type "set",dict:=none,data:=.set #[] 0 (.fresh 0 0 (kG w)) })
  (h:∀(h':Heap) (tk:Nat),SetG prog w h' S (fun k'=>(firstMet (fun i=>ns.getD i 0) items.size).any (· == k')) (firstMet (fun i=>ns.getD i 0) items.size).length->
   (∀b o,b≠S->s1.heap.get? b=some o->h'.get? b=some o)->R (.ok (.ret .none)) { s1 with heap:=h',toks:=tk }) :
  wpAny (model prog w) A.in1 (Builtin.«set.__init__» ⟨[.ref S,.ref l],[]⟩) (fun fin s'=>match fin with | .done f=>R (.ok f) s' | .again c'=>c'.quiet=true/\codeAny (model prog w) A c' R s') (fun e s'=>R (.error e) s') s1:=by
 have hT:s1.TypeIs (.ref S) "set" :=⟨_,hS,rfl⟩
 have hS0:SetG prog w s1.heap S (fun _=>false) 0:=⟨_,#[],0,_,hS,⟨rfl,rfl,rfl⟩,rfl,(fun e he=>by simp at he),(fun k=>by simp),by decide,rfl,rfl,rfl,fun _=>by simp [u6i.fresh,Rises]⟩
 obtain⟨ol,hol,hcl,nl,hdl⟩:=id hl;obtain⟨ocls,odict,odata,oslots⟩:=ol;simp only at hcl hdl;subst hcl hdl;have hsls:=PySem.F.sub_list_set;have hslf:=PySem.F.sub_list_frozenset;have hne:(Value.type "list" == Value.type "dict")=false:=by decide
 have hneS:S≠s1.heap.objs.size:=u4c (u4D hS);have hneI:l≠s1.heap.objs.size:=u4c (u4D hol);have hh3:A.in1.in1.handled=none:=by simp [hh]
 have hval:∀(i:Nat) (v:Value),items[i]?=some v->∃t,v=.int ((fun i=>ns.getD i 0) i) t:=fun i v hv=>IntsAre.int_at hi i v (by rw[u4R];exact hv);have hSf:S∉[s1.heap.objs.size,l]:=by
  simp only [u3w,u4B,or_false,not_or];exact⟨hneS,fun z=>hlS z.symm⟩
 unfold Builtin.«set.__init__» noKeywords Builtin.Frozenset.updateFrom;generalize hPI:pyIter=PI
 wp_walk
 subst hPI;refine wpAny_pyIter_list hl ?_;refine u3r (wpAny_runValue ?_);refine z9j ((Walks.list hh3 _ l hneI items).toS) S hSf (fun i=>ns.getD i 0) hval hb (items.size-0) 0 _ (by omega) (u4q _) ⟨⟨_,u4C _ rfl,rfl,rfl⟩,hl.push _⟩ (hS0.keep fun o e=>u3v _ e) ?_;intro s' hm hS';rw[Moved.eq_with hm];refine u3u (u3u (h _ _ hS' fun b o hb e=>?_));refine hm.heap b o (fun z=>?_) (u3v _ e);rcases u3w.mp z with z|z
 ·exact hb z
 ·exact absurd (u4D e) (by rw[u4O.mp z];exact u5n _)
set_option maxHeartbeats 3200000 in
theorem y1R {l:Addr} {items:Array Value} {ns:List Int} {Q:Value->Shared->Prop} (hh:A.handled=none) (hl:s.heap.IsList l items) (hi:IntsAre items.toList ns) (hb:items.size+1<scanBound)
  (h:∀(h':Heap) (tk:Nat),SetG prog w h' s.heap.objs.size (fun k'=>(firstMet (fun i=>ns.getD i 0) items.size).any (· == k')) (firstMet (fun i=>ns.getD i 0) items.size).length->
   (∀b o,s.heap.get? b=some o->h'.get? b=some o)->Q (.ref s.heap.objs.size) { s with heap:=h',toks:=tk }) :
  wpAny (model prog w) A (call (.type "set") [.ref l]) Q E s:=by
 obtain⟨c,tl,hmro⟩:=PySem.F.called_set.mro;have hmade:=PySem.F.called_set.made;have hsub:=PySem.F.called_set.sub;have h1:=PySem.F.called_set.notType;have h2:=PySem.F.called_set.canCreate;have hct:=PySem.F.typeCall_set_1 (.ref l);refine wpAny_call (codeAny_of_tree (u3u ⟨Code.quiet_builtin _ (by decide +kernel),u5u PySem.F.entry_type_call ?_⟩));rw[Around.under_plain (weight_type_call_type "set" [.ref l] []) rfl]
 repeat (any_goals (first|assumption|wp_step))
 refine codeAny_mono (y2b (a:=.ref l) (E:=E) (Q₁:=fun obj s₁=>obj=.ref s.heap.objs.size/\s₁ = { s with heap:=s.heap.push { cls:=.type "set",dict:=none,data:=.set #[] 0 (.fresh 0 0 (kG w)) } }) ⟨rfl,rfl⟩) fun r s₁ hr=>?_
 match r,hr with
 | .error e,hr=>exact hr
 | .ok .next,hr=>exact hr.elim
 | .ok .brk,hr=>exact hr.elim
 | .ok .cont,hr=>exact hr.elim
 | .ok (.ret obj),hr=>
  obtain⟨rfl,rfl⟩:=hr;have hS:(s.heap.push { cls:=.type "set",dict:=none,data:=.set #[] 0 (.fresh 0 0 (kG w)) }).get? s.heap.objs.size=some { cls:=.type "set",dict:=none,data:=.set #[] 0 (.fresh 0 0 (kG w)) }:=u4C _ rfl;have hT:Shared.TypeIs { s with heap:=s.heap.push { cls:=.type "set",dict:=none,data:=.set #[] 0 (.fresh 0 0 (kG w)) } } (.ref s.heap.objs.size) "set" :=⟨_,hS,rfl⟩
  have hli:=PySem.F.called_set.init.lookup;have hbi:=PySem.F.called_set.init.bind (.ref s.heap.objs.size)
  repeat (any_goals (first|assumption|wp_step))
  have hlt:l<s.heap.objs.size:=by obtain⟨ol,hol,_⟩:=hl;exact u4D hol
  refine codeAny_mono (codeAny_call_builtin (R:=wants (fun r s₂=>r=.none/\∃h' tk,s₂ = { s with heap:=h',toks:=tk }/\SetG prog w h' s.heap.objs.size (fun k'=>(firstMet (fun i=>ns.getD i 0) items.size).any (· == k')) (firstMet (fun i=>ns.getD i 0) items.size).length/\
   (∀b o,s.heap.get? b=some o->h'.get? b=some o)) E) PySem.F.called_set.init.plain PySem.F.entry_set_init (check_set_init_1 hT ?_)) fun r₂ s₂ hr₂=>?_
  ·refine y0Z (by simp [hh]) (hl.push _) hi hb (u4c hlt) hS fun h' tk hS' hk=>⟨rfl,h',tk,rfl,hS',fun b o e=>hk b o (u4c (u4D e)) (u3v _ e)⟩
  ·match r₂,hr₂ with
   | .error e,hr=>exact hr
   | .ok .next,hr=>exact hr.elim
   | .ok .brk,hr=>exact hr.elim
   | .ok .cont,hr=>exact hr.elim
   | .ok (.ret r),hr=>
    obtain⟨rfl,h',tk,rfl,hS',hk'⟩:=hr
    repeat (any_goals (first|assumption|wp_step))
    exact h _ _ hS' hk'
end
theorem zu:Slot "set_iterator" "__next__" "set_iterator.__next__" :=
 .of (owner:= "set_iterator") (n:= "__next__") (by rw[typeLookup_type,builtinLookup_eq_fast];kernel_rfl) (by decide +kernel) (by decide +kernel) (by decide +kernel) (by first|exact .inl (by decide +kernel)|exact .inr (by decide +kernel)) (by rw[isSubtype_type];kernel_rfl)
theorem wy:Slot "set_iterator" "__iter__" "set_iterator.__iter__" :=
 .of (owner:= "set_iterator") (n:= "__iter__") (by rw[typeLookup_type,builtinLookup_eq_fast];kernel_rfl) (by decide +kernel) (by decide +kernel) (by decide +kernel) (by first|exact .inl (by decide +kernel)|exact .inr (by decide +kernel)) (by rw[isSubtype_type];kernel_rfl)
theorem xS:entryFor table "set_iterator.__next__" = some Builtin.«set_iterator.__next__»:=entryFor_of_tree (by kernel_rfl)
theorem z2l:entryFor table "set_iterator.__iter__" = some Builtin.«dict_keyiterator.__iter__»:=entryFor_alias (id':= "dict_keyiterator.__iter__") (by kernel_rfl) rfl (by decide +kernel) (by kernel_rfl)
theorem z4O:entryFor table "set.__iter__" = some Builtin.«frozenset.__iter__»:=entryFor_alias (id':= "frozenset.__iter__") (by kernel_rfl) rfl (by decide +kernel) (by kernel_rfl)
theorem z7R:Manifest.owners.lookup (String.ofList ['r','o','t','a','r','e','t','i','_','t','e','s'].reverse)=some Manifest.sig_set_iterator:=by kernel_rfl
theorem xj (a:Value):argsOk "set_iterator.__next__" ⟨[a],[]⟩:=by
 unfold argsOk;rw[signature?_of (id:= "set_iterator.__next__") (n:=['_','_','t','x','e','n','_','_']) (o:=['r','o','t','a','r','e','t','i','_','t','e','s']) (by kernel_rfl) z7R];kernel_rfl
theorem z4P (a:Value):argsOk "set_iterator.__iter__" ⟨[a],[]⟩:=by
 unfold argsOk;rw[signature?_of (id:= "set_iterator.__iter__") (n:=['_','_','r','e','t','i','_','_']) (o:=['r','o','t','a','r','e','t','i','_','t','e','s']) (by kernel_rfl) z7R];kernel_rfl
theorem wc {α:Type}:∀ {l:List α} {i:Nat} (h:i<l.length),List.Perm (l[i]::l.eraseIdx i) l
 | a::l,0,_=>.refl _
 | a::l,i+1,h=>by
  have ih:=wc (l:=l) (i:=i) (by simpa using h);simp only [List.getElem_cons_succ,List.eraseIdx_cons_succ];exact (List.Perm.swap _ _ _).trans (ih.cons a)
theorem z9u {α:Type} (nx:Nat->Nat):∀(f k:Nat) (left:List α) (out:Array α),left.length=f->List.Perm (pickOrder.go nx f k left out).toList (out.toList++left)
 | 0,k,left,out,h=>by
  have:left=[]:=u5H h;subst this;simp [pickOrder.go]
 | f+1,k,left,out,h=>by
  have hl:nx k%left.length<left.length:=Nat.mod_lt _ (by omega);unfold pickOrder.go;rw[u4A hl];dsimp only;refine (z9u nx f (k+1) _ _ (by rw[List.length_eraseIdx,if_pos hl];omega)).trans ?_;rw[Array.toList_push,u4m];refine List.Perm.append_left _ ?_;exact (wc hl)
theorem z0d {α:Type} (nx:Nat->Nat) (xs:Array α):List.Perm (pickOrder nx xs).toList xs.toList:=by
 have:=z9u nx xs.size 0 xs.toList #[] (by simp);simpa [pickOrder] using this
section
variable {prog:Program} {w:World} {A:Around} {E:Value->Shared->Prop}
theorem z5S {α:Type}:∀(n:Nat) (xs:List α) (s:Shared) {Q:List α->Shared->Prop},xs.length=n->(∀l d',List.Perm l xs->Q l { s with drawn:=d' })->wpAny (model prog w) A (drawOrder n xs) Q E s
 | 0,xs,s,Q,hl,h=>by
  have:xs=[]:=u5H hl;subst this;exact u3u (h [] s.drawn (.refl _))
 | n+1,[],s,Q,hl,h=>by simp at hl
 | n+1,x::xs,s,Q,hl,h=>by
  unfold drawOrder;refine u3r (m:=choose .order (x::xs).length) ?_;intro Γ p hΓ;refine⟨by simp,?_⟩;have hi:(model prog w).w.draws .order (s.drawn.get .order)%(x::xs).length<(x::xs).length:=Nat.mod_lt _ (by simp);generalize (model prog w).w.draws .order (s.drawn.get .order)%(x::xs).length=i at hi;show wpAny (model prog w) A _ _ _ _;rw[u4A hi];refine u3r (z5S n _ _ (by rw[List.length_eraseIdx,if_pos hi];omega) fun l d' hp=>?_);refine u3u (h _ d' ?_);exact (hp.cons _).trans (wc hi)
end
noncomputable def SetAt (h:Heap) (S:Addr) (es:Array (Int×Value)) (ep:Nat) (t:u6i):Prop:=∃o,h.get? S=some o/\o.ExactSet/\o.data=.set es ep t
theorem SetAt.keep {h h':Heap} {S:Addr} {es:Array (Int×Value)} {ep:Nat} {t:u6i} (x:SetAt h S es ep t) (k:∀o,h.get? S=some o->h'.get? S=some o):SetAt h' S es ep t:=let ⟨o,e,r⟩:=x;⟨o,k _ e,r⟩
noncomputable def SetIt (h:Heap) (I:Addr) (first:Value) (i:Nat) (S:Addr) (n ep:Nat):Prop:=∃o,h.get? I=some o/\o.cls=.type "set_iterator" /\o.data=.fields #[first,.int i 0,.ref S,.int n 0,.int ep 0]
theorem SetIt.keep {h h':Heap} {I:Addr} {first:Value} {i:Nat} {S:Addr} {n ep:Nat} (x:SetIt h I first i S n ep) (k:∀o,h.get? I=some o->h'.get? I=some o):SetIt h' I first i S n ep:=let ⟨o,e,r⟩:=x;⟨o,k _ e,r⟩
theorem SetIt.typeIs {s:Shared} {I:Addr} {first:Value} {i:Nat} {S:Addr} {n ep:Nat} (x:SetIt s.heap I first i S n ep):s.TypeIs (.ref I) "set_iterator" :=let ⟨o,e,c,_⟩:=x;⟨o,e,c⟩
section
variable {prog:Program} {w:World} {A:Around} {E:Value->Shared->Prop} {s:Shared} {I S:Addr} {i ep slot:Nat} {es:Array (Int×Value)} {t:u6i}
theorem z5x {first:Value} {n:Nat} {Q:Value->Shared->Prop} (hit:SetIt s.heap I first i S n ep) (h:Q (.ref I) s):wpAny (model prog w) A (pyIter (.ref I)) Q E s:=by
 refine wpAny_pyIter_slot hit.typeIs wy (u5S wy hit.typeIs z2l ?_ (z4P _));show wpAny _ _ (ret (.ref I)) _ _ s;exact u3u ⟨_,rfl, "set_iterator",_,hit.typeIs,zu.lookup,h⟩
theorem z9g {x:Value} {nx:Nat} {Q:Option Value->Shared->Prop} (hit:SetIt s.heap I (.int slot 0) i S es.size ep) (hs:SetAt s.heap S es ep t) (hf:t.fits es.size=true)
  (hx:∀(A:Around) (E:Value->Shared->Prop) (Q:Option (Value×Nat)->Shared->Prop),Q (some (x,nx)) s->wpAny (model prog w) A (setNext S slot i ep) Q E s)
  (hQ:∀h',SetIt h' I (.int nx 0) (i+1) S es.size ep->u5x I s.heap h'->Q (some x) { s with heap:=h' }):wpAny (model prog w) A (pyNext (.ref I)) Q E s:=by
 obtain⟨o,ho,hc,hd⟩:=id hit;obtain⟨oS,hoS,hex,hdS⟩:=id hs;unfold pyNext;refine u3r (wpAny_attempt (u5J (name:=u3t "__next__") hit.typeIs zu (u5S zu hit.typeIs xS ?_ (xj _))));unfold Builtin.«set_iterator.__next__»;refine u3r (u3u ?_);refine u3r (wpAny_fieldsOf ho hd ?_);dsimp only;unfold setEntries;refine u3r (u3r (u5U hoS hdS hf (u3u ?_)));rw[if_neg (by simp)];refine u3r (hx _ _ _ ?_);dsimp only;refine u3r (wpAny_setField ho hd (by simp) ?_);have ho2:=u4x (Obj.mapFields (·.setIfInBounds 0 (rawInt nx))) ho (Obj.isFreed_of_fields (u5X hd _));have hd2:=u5X hd (·.setIfInBounds 0 (rawInt nx));refine u3r (wpAny_setField ho2 hd2 (by simp) ?_);have ho3:=u4x (Obj.mapFields (·.setIfInBounds 1 (rawInt ((i:Int)+1)))) ho2 (Obj.isFreed_of_fields (u5X hd2 _));have hd3:=u5X hd2 (·.setIfInBounds 1 (rawInt ((i:Int)+1)));exact u3u ⟨_,rfl,u3u (hQ _ ⟨_,ho3,(Obj.cls_mapFields ..).trans ((Obj.cls_mapFields ..).trans hc),by rw[hd3];simp [rawInt]⟩ ((u5M ..).trans (u5M ..)))⟩
theorem y3W {Q:Option Value->Shared->Prop} (hh:A.handled=none) (hit:SetIt s.heap I (.int slot 0) i S es.size ep) (hs:SetAt s.heap S es ep t) (hf:t.fits es.size=true)
  (hx:∀(A:Around) (E:Value->Shared->Prop) (Q:Option (Value×Nat)->Shared->Prop),Q none s->wpAny (model prog w) A (setNext S slot i ep) Q E s)
  (hQ:∀h',Heap.ExtBut I s.heap h'->Q none { s with heap:=h' }):wpAny (model prog w) A (pyNext (.ref I)) Q E s:=by
 obtain⟨o,ho,hc,hd⟩:=id hit;obtain⟨oS,hoS,hex,hdS⟩:=id hs;unfold pyNext;refine u3r (wpAny_attempt (u5J (name:=u3t "__next__") hit.typeIs zu (u5S zu hit.typeIs xS ?_ (xj _))));unfold Builtin.«set_iterator.__next__»;refine u3r (u3u ?_);refine u3r (wpAny_fieldsOf ho hd ?_);dsimp only;unfold setEntries;refine u3r (u3r (u5U hoS hdS hf (u3u ?_)));rw[if_neg (by simp)];refine u3r (hx _ _ _ ?_);dsimp only;refine u3r (wpAny_setField ho hd (by simp) ?_);refine u3r ?_;simp only [newExc,newTuple];refine u3r (u4r ?_ (by size_fits));refine u3r (m:=firstArgMember _ _) (wpAny_of_eq (a:=u6W) (by first|rfl|(simp only [firstArgMember];rfl)) ?_);refine u4r ?_ (by size_fits);simp only [raiseNew];refine u3r (wpAny_handled ?_);rw[show A.in1.handled=none from hh];refine u3r (u3u (wpAny_throw ?_));refine u3r (wpAny_isInstance (T:= "StopIteration") (b:=true) ⟨_,u4C _ rfl,rfl⟩ isSubtype_stop ?_);exact u3u (hQ _ (((u5M ..).extBut.push _).push _))
end
noncomputable def PlT (h:Heap) (T:Addr) (ps:List Nat):Prop:=∃o n,h.get? T=some o/\o.data=.seq (ps.map fun (i:Nat)=>rawInt i).toArray n
theorem PlT.keep {h h':Heap} {T:Addr} {ps:List Nat} (x:PlT h T ps) (k:∀o,h.get? T=some o->h'.get? T=some o):PlT h' T ps:=let ⟨o,n,e,r⟩:=x;⟨o,n,k _ e,r⟩
section
variable {prog:Program} {w:World} {A:Around} {E:Value->Shared->Prop} {s:Shared} {I S T:Addr} {i ep:Nat} {es:Array (Int×Value)} {t:u6i} {ps:List Nat}
theorem y1v {x:Value} {z:Int} {p:Nat} {Q:Option Value->Shared->Prop} (hit:SetIt s.heap I (.ref T) i S es.size ep) (hs:SetAt s.heap S es ep t) (hf:t.fits es.size=true) (hT:PlT s.heap T ps) (hp:ps[i]?=some p) (hx:es[p]?=some (z,x))
  (hQ:∀h',SetIt h' I (.ref T) (i+1) S es.size ep->u5x I s.heap h'->Q (some x) { s with heap:=h' }):wpAny (model prog w) A (pyNext (.ref I)) Q E s:=by
 obtain⟨o,ho,hc,hd⟩:=id hit;obtain⟨oS,hoS,hex,hdS⟩:=id hs;obtain⟨oT,nT,hoT,hdT⟩:=id hT;unfold pyNext;refine u3r (wpAny_attempt (u5J (name:=u3t "__next__") hit.typeIs zu (u5S zu hit.typeIs xS ?_ (xj _))));unfold Builtin.«set_iterator.__next__»;refine u3r (u3u ?_);refine u3r (wpAny_fieldsOf ho hd ?_);dsimp only;unfold setEntries;refine u3r (u3r (u5U hoS hdS hf (u3u ?_)));rw[if_neg (by simp)];refine u3r (u5b hoT hdT ?_);have hg:(ps.map fun (i:Nat)=>rawInt i).toArray[(i:Int).toNat]?=some (.int p 0):=by simp [hp,rawInt]
 dsimp only;rw[hg];dsimp only;unfold setNextDrawn;refine u3r (u3r (u5U hoS hdS hf ?_));dsimp only;rw[if_neg (by simp)];rw[show es[(p:Int).toNat]?=some (z,x) from hx];refine u3u ?_;refine u3r (wpAny_setField ho hd (by simp) ?_);have ho3:=u4x (Obj.mapFields (·.setIfInBounds 1 (rawInt ((i:Int)+1)))) ho (Obj.isFreed_of_fields (u5X hd _));have hd3:=u5X hd (·.setIfInBounds 1 (rawInt ((i:Int)+1)));exact u3u ⟨_,rfl,u3u (hQ _ ⟨_,ho3,(Obj.cls_mapFields ..).trans hc,by rw[hd3];simp [rawInt]⟩ (u5M ..))⟩
theorem y4G {Q:Option Value->Shared->Prop} (hh:A.handled=none) (hit:SetIt s.heap I (.ref T) i S es.size ep) (hs:SetAt s.heap S es ep t) (hf:t.fits es.size=true) (hT:PlT s.heap T ps) (hp:ps[i]?=none)
  (hQ:∀h',Heap.ExtBut I s.heap h'->Q none { s with heap:=h' }):wpAny (model prog w) A (pyNext (.ref I)) Q E s:=by
 obtain⟨o,ho,hc,hd⟩:=id hit;obtain⟨oS,hoS,hex,hdS⟩:=id hs;obtain⟨oT,nT,hoT,hdT⟩:=id hT;unfold pyNext;refine u3r (wpAny_attempt (u5J (name:=u3t "__next__") hit.typeIs zu (u5S zu hit.typeIs xS ?_ (xj _))));unfold Builtin.«set_iterator.__next__»;refine u3r (u3u ?_);refine u3r (wpAny_fieldsOf ho hd ?_);dsimp only;unfold setEntries;refine u3r (u3r (u5U hoS hdS hf (u3u ?_)));rw[if_neg (by simp)];refine u3r (u5b hoT hdT ?_);have hg:(ps.map fun (i:Nat)=>rawInt i).toArray[(i:Int).toNat]?=none:=by
  have:=List.getElem?_eq_none_iff.mp hp;simp [this]
 dsimp only;rw[hg];dsimp only;refine u3r (wpAny_setField ho hd (by simp) ?_);have ho2:=u4x (Obj.mapFields (·.setIfInBounds 0 (rawInt 0))) ho (Obj.isFreed_of_fields (u5X hd _));have hd2:=u5X hd (·.setIfInBounds 0 (rawInt 0));refine u3r (wpAny_setField ho2 hd2 (by simp) ?_);refine u3r ?_;simp only [newExc,newTuple];refine u3r (u4r ?_ (by size_fits));refine u3r (m:=firstArgMember _ _) (wpAny_of_eq (a:=u6W) (by first|rfl|(simp only [firstArgMember];rfl)) ?_);refine u4r ?_ (by size_fits);simp only [raiseNew];refine u3r (wpAny_handled ?_);rw[show A.in1.handled=none from hh];refine u3r (u3u (wpAny_throw ?_));refine u3r (wpAny_isInstance (T:= "StopIteration") (b:=true) ⟨_,u4C _ rfl,rfl⟩ isSubtype_stop ?_);exact u3u (hQ _ ((((u5M ..).trans (u5M ..)).extBut.push _).push _))
theorem z4n {Q:Option (Value×Nat)->Shared->Prop} (hbt:w.params.followText "set-order" = true) (hs:SetAt s.heap S es ep t) (hf:t.fits es.size=true)
  (h:Q (((pickOrder (w.params.setOrder S ep) es)[i]?).map fun e=>(e.2,0)) s):wpAny (model prog w) A (setNext S 0 i ep) Q E s:=by
 obtain⟨oS,hoS,hex,hdS⟩:=id hs;unfold setNext setsByText;refine u3r (u5U hoS hdS hf ?_);refine u3r (u3r (wpAny_askSetting (u3u ?_)));rw[if_pos (show (model prog w).w.params.followText "set-order" = true from hbt)];rw[if_neg (by simp)];unfold setWalk setsByText;refine u3r (u3r (u5U hoS hdS hf ?_));refine u3r (u3r (wpAny_askSetting (u3u ?_)));rw[if_pos (show (model prog w).w.params.followText "set-order" = true from hbt)];refine u3r (wpAny_askSetting ?_);exact u3u (u3u h)
theorem z2A {slot:Nat} {Q:Option (Value×Nat)->Shared->Prop} (hbt:w.params.followText "set-order" = false) (hs:SetAt s.heap S es ep t) (hf:t.fits es.size=true) (ht:qh (kG w) t) (hp:t.plain=true∨es.size<=1)
  (h:Q (match es[u4u t.place slot]?,t.place[u4u t.place slot]? with|some (_,x),some j=>some (x,j+1)|_,_=>none) s):wpAny (model prog w) A (setNext S slot i ep) Q E s:=by
 obtain⟨oS,hoS,hex,hdS⟩:=id hs;have hl:t.led=true:=by rw[ht.1];unfold kG;rw[hbt];rfl
 unfold setNext setsByText;refine u3r (u5U hoS hdS hf ?_);refine u3r (u3r (wpAny_askSetting (u3u ?_)));rw[if_neg (show ¬(model prog w).w.params.followText "set-order" = true by rw[show (model prog w).w.params.followText "set-order" = false from hbt];decide)];refine wpAny_ite_split (fun hab=>?_) (fun _=>?_)
 ·have z:(!t.plain && decide (es.size > 1))=true:=hab;simp only [u4a,u6B,decide_eq_true_eq] at z;rcases hp with y|y
  ·rw[y] at z;exact absurd z.1 (by decide)
  ·exact absurd z.2 (by omega)
 refine u3r ?_;show wpAny _ _ (if (!t.led && !es.isEmpty)=true then _ else _) _ _ _;rw[if_neg (by rw[hl];simp)];exact u3u (u3u h)
end
section
variable {prog:Program} {w:World} {A:Around} {I S T:Addr} {ep:Nat} {es:Array (Int×Value)} {t:u6i} {ps:List Nat}
theorem z9M (hh:A.handled=none) (hne:S≠I) (hbt:w.params.followText "set-order" = true) (hf:t.fits es.size=true) :
  Walks prog w A I [I,S] [I] es.size (fun i v=>∃z,(pickOrder (w.params.setOrder S ep) es).toList[i]?=some (z,v)) (fun i h=>SetIt h I (.int 0 0) i S es.size ep/\SetAt h S es ep t) where
 sub:=fun b hb=>by simp at hb;simp [hb]
 frame:=fun _ _ _ st hk=>⟨st.1.keep fun o e=>hk I (by simp) o e,st.2.keep fun o e=>hk S (by simp) o e⟩
 item:=fun i s Q E hi st hQ=>by
  have hl:(pickOrder (w.params.setOrder S ep) es).size=es.size:=by rw[←u4P,(z0d _ _).length_eq,u4P]
  obtain⟨⟨z,x⟩,hx⟩:∃p,(pickOrder (w.params.setOrder S ep) es)[i]?=some p:=⟨(pickOrder (w.params.setOrder S ep) es)[i]'(by omega),by simp [hl,hi]⟩
  refine z9g (x:=x) (nx:=0) (slot:=0) st.1 st.2 hf (fun A E Q q=>z4n hbt st.2 hf (by rw[hx];exact q)) fun h' hit hsb=>?_;exact hQ x h' s.toks ⟨z,by rw[u4R];exact hx⟩ ⟨hit,st.2.keep fun o e=>(hsb.2 S hne).trans e⟩ fun b o hb e=>(hsb.2 b fun z=>hb (by simp [z])).trans e
 done:=fun s Q E st hQ=>by
  have hl:(pickOrder (w.params.setOrder S ep) es).size=es.size:=by rw[←u4P,(z0d _ _).length_eq,u4P]
  refine y3W (slot:=0) hh st.1 st.2 hf (fun A E Q q=>z4n hbt st.2 hf (by rw[Array.getElem?_eq_none (by omega)];exact q)) fun h' he=>?_;exact hQ h' s.toks fun b o hb e=>he b o (fun z=>hb (by simp [z])) e
 self:=fun _ _ _ _ st hQ=>z5x st.1 hQ
noncomputable def z8R (t:u6i) (i:Nat):Nat:=if i=0 then 0 else t.place.getD (i-1) 0+1
theorem z0J (h:Rises t.place.toList) {i:Nat} (hi:i<=t.place.size):u4u t.place (z8R t i)=i:=by
 unfold z8R;split
 ·rename_i e
  rw[e];exact z9E h
 ·rename_i e
  have hk:i-1<t.place.size:=by omega
  have e1:t.place[i-1]?=some (t.place.getD (i-1) 0):=by simp [Array.getD,hk]
  rw[z9F h e1];omega
theorem z8L (hh:A.handled=none) (hne:S≠I) (hbt:w.params.followText "set-order" = false) (hf:t.fits es.size=true) (ht:qh (kG w) t) (hp:t.plain=true∨es.size<=1) :
  Walks prog w A I [I,S] [I] es.size (fun i v=>∃z,es.toList[i]?=some (z,v)) (fun i h=>SetIt h I (.int (z8R t i) 0) i S es.size ep/\SetAt h S es ep t) where
 sub:=fun b hb=>by simp at hb;simp [hb]
 frame:=fun _ _ _ st hk=>⟨st.1.keep fun o e=>hk I (by simp) o e,st.2.keep fun o e=>hk S (by simp) o e⟩
 item:=fun i s Q E hi st hQ=>by
  have hz:t.place.size=es.size:=by
   simp only [u6i.fits,u4a,beq_iff_eq] at hf;exact hf.1
  have hr:Rises t.place.toList:=by
   rcases hp with y|y
   ·exact ht.2 y
   ·have:t.place.toList.length<=1:=by rw[u4P];omega
    unfold Rises
    match h:t.place.toList,this with
    | [],_=>exact .nil
    | [_],_=>exact List.pairwise_singleton _ _
  obtain⟨⟨z,x⟩,hx⟩:∃p,es[i]?=some p:=⟨es[i],by simp [hi]⟩
  have hj:t.place[i]?=some (t.place.getD i 0):=by simp [Array.getD,hz,hi]
  refine z9g (x:=x) (nx:=z8R t (i+1)) (slot:=z8R t i) st.1 st.2 hf (fun A E Q q=>z2A hbt st.2 hf ht hp (by rw[z0J hr (by omega),hx,hj];exact q)) fun h' hit hsb=>?_;exact hQ x h' s.toks ⟨z,by rw[u4R];exact hx⟩ ⟨hit,st.2.keep fun o e=>(hsb.2 S hne).trans e⟩ fun b o hb e=>(hsb.2 b fun z=>hb (by simp [z])).trans e
 done:=fun s Q E st hQ=>by
  have hz:t.place.size=es.size:=by
   simp only [u6i.fits,u4a,beq_iff_eq] at hf;exact hf.1
  have hr:Rises t.place.toList:=by
   rcases hp with y|y
   ·exact ht.2 y
   ·have:t.place.toList.length<=1:=by rw[u4P];omega
    unfold Rises
    match h:t.place.toList,this with
    | [],_=>exact .nil
    | [_],_=>exact List.pairwise_singleton _ _
  refine y3W (slot:=z8R t es.size) hh st.1 st.2 hf (fun A E Q q=>z2A hbt st.2 hf ht hp (by rw[z0J hr (by omega),Array.getElem?_eq_none (u3y _)];exact q)) fun h' he=>?_;exact hQ h' s.toks fun b o hb e=>he b o (fun z=>hb (by simp [z])) e
 self:=fun _ _ _ _ st hQ=>z5x st.1 hQ
theorem y3l {es:Array (Int×Value)}:∀ {ps:List Nat},(∀k∈ps,k<es.size)->ps.filterMap (fun k=>es[k]?)=ps.map fun k=>es.getD k (0,.none)
 | [],_=>rfl
 | k::ps,h=>by
  have hk:=h k (by simp);have ih:=y3l (es:=es) (ps:=ps) fun x hx=>h x (by simp [hx]);rw[u6c,Array.getElem?_eq_getElem hk,ih,u4j];simp [Array.getD,hk]
theorem z8M (hh:A.handled=none) (hne:S≠I) (hTI:T≠I) (hf:t.fits es.size=true) (hp:List.Perm ps (u6X es.size)) :
  Walks prog w A I [I,S,T] [I] es.size (fun i v=>∃z,(ps.filterMap fun k=>es[k]?)[i]?=some (z,v)) (fun i h=>SetIt h I (.ref T) i S es.size ep/\SetAt h S es ep t/\PlT h T ps) where
 sub:=fun b hb=>by simp at hb;simp [hb]
 frame:=fun _ _ _ st hk=>⟨st.1.keep fun o e=>hk I (by simp) o e,st.2.1.keep fun o e=>hk S (by simp) o e,st.2.2.keep fun o e=>hk T (by simp) o e⟩
 item:=fun i s Q E hi st hQ=>by
  have hl:ps.length=es.size:=by rw[hp.length_eq,List.length_range]
  have hps:ps[i]?=some (ps[i]'(by omega)):=u4A _;have hlt:ps[i]'(by omega)<es.size:=u5j.mp (hp.mem_iff.mp (u5T _));generalize ps[i]'(by omega)=p at hps hlt;obtain⟨⟨z,x⟩,hx⟩:∃q,es[p]?=some q:=⟨es[p],by simp [hlt]⟩
  have hfm:(ps.filterMap fun k=>es[k]?)[i]?=some (z,x):=by
   have e:=y3l (es:=es) (ps:=ps) fun k hk=>u5j.mp (hp.mem_iff.mp hk);rw[e,u4T,hps];simp [Array.getD,hlt];have:=hx;rw[Array.getElem?_eq_getElem hlt] at this;exact u5Y this
  refine y1v (x:=x) st.1 st.2.1 hf st.2.2 hps hx fun h' hit hsb=>?_;exact hQ x h' s.toks ⟨z,hfm⟩ ⟨hit,st.2.1.keep fun o e=>(hsb.2 S hne).trans e,st.2.2.keep fun o e=>(hsb.2 T hTI).trans e⟩ fun b o hb e=>(hsb.2 b fun z=>hb (by simp [z])).trans e
 done:=fun s Q E st hQ=>by
  have hl:ps.length=es.size:=by rw[hp.length_eq,List.length_range]
  refine y4G hh st.1 st.2.1 hf st.2.2 (u6I (by omega)) fun h' he=>?_;exact hQ h' s.toks fun b o hb e=>he b o (fun z=>hb (by simp [z])) e
 self:=fun _ _ _ _ st hQ=>z5x st.1 hQ
end
section
variable {prog:Program} {w:World} {A:Around} {E:Value->Shared->Prop} {s:Shared} {S:Addr} {ep:Nat} {es:Array (Int×Value)} {t:u6i}
theorem y1x {Q:Value->Shared->Prop} (hh:A.handled=none) (hs:SetAt s.heap S es ep t) (hf:t.fits es.size=true) (ht:qh (kG w) t) (hz:es.size<scanBound)
  (h:∀(I:Addr) (fp:List Addr) (order:List (Int×Value)) (St:Nat->Heap->Prop) (h':Heap) (d':Drawn),List.Perm order es.toList->Walks prog w A I fp [I] es.size (fun i v=>∃z,order[i]?=some (z,v)) St->St 0 h'->
   (∀b o,s.heap.get? b=some o->h'.get? b=some o)->(∀b∈fp,b=S∨s.heap.objs.size<=b)->s.heap.objs.size<=I->Q (.ref I) { s with heap:=h',drawn:=d' }):wpAny (model prog w) A (pyIter (.ref S)) Q E s:=by
 obtain⟨oS,hoS,hex,hdS⟩:=id hs;have hT:s.TypeIs (.ref S) "set" :=⟨_,hoS,hex.1⟩
 have hlt:S<s.heap.objs.size:=u4D hoS;refine wpAny_pyIter_slot hT PySem.F.slot_set_iter (u5S PySem.F.slot_set_iter hT z4O ?_ (PySem.F.args_set_iter_1 _));unfold Builtin.«frozenset.__iter__» Builtin.Frozenset.slot0 Builtin.Frozenset.sizeOf setEntries setDrawn setsByText;refine u3r (u3r (u3u (u3u ?_)));refine u3r (u3r (u3r (u5U hoS hdS hf (u3u (u3u ?_)))));refine u3r (u3r (u5U hoS hdS hf ?_));refine u3r (u3r (wpAny_askSetting (u3u ?_)));refine u3u ?_;refine wpAny_ite_split (fun hab=>?_) (fun hab=>?_)
 ·refine u3r (z5S es.size (u6X es.size) s List.length_range fun ps d' hp=>?_);have hpl:ps.length=es.size:=by rw[hp.length_eq,List.length_range]
  refine u3r (u4r ?_ (by show (ps.map _).toArray.size<=u4L;simp only [u4I,u3z,hpl];exact fits_of_scanBound hz));refine u3r (wpAny_setEpoch_of (u3v _ hoS) hdS hf ?_);refine u3r (u4r ?_ (by size_fits));refine u3u ⟨_,rfl, "set_iterator",_,⟨_,u4C _ rfl,rfl⟩,zu.lookup,?_⟩;have sz1:s.heap.objs.size<(s.heap.push { cls:=.type "tuple",data:=.seq (ps.map fun (i:Nat)=>rawInt i).toArray }).objs.size:=by rw[Heap.size_push];exact Nat.lt_succ_self _
  refine h _ _ _ _ _ _ ?_ (z8M (T:=s.heap.objs.size) (ep:=ep) hh (u4c (Nat.lt_trans hlt sz1)) (u4c sz1) hf hp) ⟨⟨_,u4C _ rfl,rfl,rfl⟩,⟨_,u3v _ (u3v _ hoS),hex,hdS⟩,⟨_,_,u3v _ (u4C _ rfl),rfl⟩⟩ (fun b o e=>u3v _ (u3v _ e)) (fun b hb=>?_) (Nat.le_of_lt sz1)
  ·exact (hp.filterMap _).trans (by rw[filterMap_getElem?_range])
  ·simp only [u3w,u4B,or_false] at hb;rcases hb with rfl|rfl|rfl
   ·exact .inr (Nat.le_of_lt sz1)
   ·exact .inl rfl
   ·exact .inr (u3y _)
 ·have z:¬(!w.params.followText "set-order" && (!t.plain && decide (es.size > 1)))=true:=hab;refine u3r (u3u ?_);refine u3r (wpAny_setEpoch_of hoS hdS hf ?_);refine u3r (u4r ?_ (by size_fits));refine u3u ⟨_,rfl, "set_iterator",_,⟨_,u4C _ rfl,rfl⟩,zu.lookup,?_⟩;have fin:∀b∈[s.heap.objs.size,S],b=S∨s.heap.objs.size<=b:=fun b hb=>by
   simp only [u3w,u4B,or_false] at hb;rcases hb with rfl|rfl
   ·exact .inr (u3y _)
   ·exact .inl rfl
  cases hbt:w.params.followText "set-order" with
  | true=>exact h _ _ _ _ _ s.drawn (z0d _ _) (z9M (ep:=ep) hh (u4c hlt) hbt hf) ⟨⟨_,u4C _ rfl,rfl,rfl⟩,⟨_,u3v _ hoS,hex,hdS⟩⟩ (fun b o e=>u3v _ e) fin (u3y _)
  | false=>
   rw[hbt] at z;have hp:t.plain=true∨es.size<=1:=by
    cases e:t.plain with
    | true=>exact .inl rfl
    | false=>
     rw[e] at z;simp at z;exact .inr z
   exact h _ _ _ _ _ s.drawn (.refl _) (z8L (ep:=ep) hh (u4c hlt) hbt hf ht hp) ⟨⟨_,u4C _ rfl,rfl,rfl⟩,⟨_,u3v _ hoS,hex,hdS⟩⟩ (fun b o e=>u3v _ e) fin (u3y _)
end
section
variable {prog:Program} {w:World} {A:Around} {E:Value->Shared->Prop} {s:Shared} {S:Addr} {ep:Nat} {es:Array (Int×Value)} {t:u6i}
theorem y1y {r:Addr} {Q:Bool->Shared->Prop} (hT:s.TypeIs (.ref r) "set") (h:Q false s):wpAny (model prog w) A (Builtin.List.listLengthHint (.ref r)) Q E s:=by
 unfold Builtin.List.listLengthHint;refine u3r (wpAny_specialOf hT PySem.F.slot_set_len.lookup ?_);generalize hid:("set.__len__" : String)=id0
 wp_delta
 rw[show splitId id0=some ("set", "__len__") from by subst hid;decide +kernel];subst hid;refine u3r (wpAny_isInstance (T:= "set") (b:=true) hT sub_set_self ?_);refine wpAny_ite_split (fun hab=>absurd hab (by decide)) (fun _=>?_);refine wpAny_ite_split (fun _=>?_) (fun hab=>absurd (by decide +kernel) hab);exact u3r (wpAny_typeOf hT (u3u h))
noncomputable def y6b (es:Array (Int×Value)) (acc:Array Value):Prop:=∃order:List (Int×Value),List.Perm order es.toList/\acc.toList=order.map (·.2)
theorem y3x {order:List (Int×Value)} {acc:Array Value} (hp:List.Perm order es.toList) (h:ItemsOf (fun i v=>∃z,order[i]?=some (z,v)) acc es.size):y6b es acc:=by
 refine⟨order,hp,List.ext_getElem? fun i=>?_⟩;have hl:order.length=es.size:=by rw[hp.length_eq,u4P]
 rw[u4R,u4T];cases e:acc[i]? with
 | none=>
  have:acc.size<=i:=Array.getElem?_eq_none_iff.mp e;rw[u6I (by rw[hl,←h.1];exact this)];rfl
 | some v=>
  obtain⟨z,hz⟩:=h.2 i v e;rw[hz];rfl
theorem z8S {R:Result->Shared->Prop} (hh:A.handled=none) (hs:SetAt s.heap S es ep t) (hf:t.fits es.size=true) (ht:qh (kG w) t) (hz:es.size<scanBound) (L:Addr) (hLS:L≠S) (res:Value) (c₀:Nat) (hL:s.heap.get? L=some { cls:=.type "list",data:=.seq #[] c₀ })
  (hR:∀h' d' tk acc' c',(∀b o,b≠L->s.heap.get? b=some o->h'.get? b=some o)->h'.get? L=some { cls:=.type "list",dict:=none,data:=.seq acc' c',slots:=#[] }->y6b es acc'->R (.ok (.ret res)) { s with heap:=h',drawn:=d',toks:=tk }) :
  wpAny (model prog w) A.in1 (Builtin.List.listExtendWith (.ref L) (.ref S) res) (fun fin s'=>match fin with | .done f=>R (.ok f) s' | .again c'=>c'.quiet=true/\codeAny (model prog w) A c' R s') (fun e s'=>R (.error e) s') s:=by
 obtain⟨oS,hoS,hex,hdS⟩:=id hs;have hT:s.TypeIs (.ref S) "set" :=⟨_,hoS,hex.1⟩
 have hlt:L<s.heap.objs.size:=u4D hL;unfold Builtin.List.listExtendWith;refine u3r (wpAny_typeOf hT ?_);have h1:Builtin.List.listSameRef (.ref L) (.ref S)=false:=by simp [Builtin.List.listSameRef,hLS]
 have h2:(Value.type "set" == Value.type "list")=false:=by decide
 have h3:(Value.type "set" == Value.type "tuple")=false:=by decide
 simp only [h1,h2,h3,Bool.or_false,u5h,if_false];refine u3r (y1x (A:=A.in1) hh hs hf ht hz fun I fp order St h1 d1 hp W st keep hfp hI=>?_);have hLf:L∉fp:=fun m=>by
  rcases hfp L m with z|z
  ·exact hLS z
  ·exact absurd hlt (Nat.not_lt.mpr z)
 have hL1:=keep _ _ hL;have hT1:Shared.TypeIs { s with heap:=h1,drawn:=d1 } (.ref S) "set" :=⟨_,keep _ _ hoS,hex.1⟩
 have key:∀(h:Heap) (c₁:Nat),St 0 h->(∀b o,b≠L->s.heap.get? b=some o->h.get? b=some o)->h.get? L=some { cls:=.type "list",data:=.seq #[] c₁ }->codeAny (model prog w) A (.builtin "list.extend.loop" ⟨[.ref L,.ref I,res],[]⟩) R { s with heap:=h,drawn:=d1 }:=by
  intro h c₁ hst hk hL₁;refine codeAny_extend_loopS W.toS (fits_of_scanBound hz) L hLf res es.size 0 _ #[] c₁ rfl (u4q _) hst hL₁ (ItemsOf.nil _) fun s' acc' c' hm hL' hacc=>?_;rw[Moved.eq_with hm];refine hR s'.heap d1 s'.toks acc' c' (fun b o hb e=>hm.heap b o (fun z=>?_) (hk b o hb e)) hL' (y3x hp hacc);rcases u3w.mp z with z|z
  ·exact hb z
  ·have h9:=u4D e;rw[u4O.mp z] at h9;exact absurd h9 (Nat.not_lt.mpr hI)
 refine u3r (wpAny_holding (y1y hT1 ?_));refine wpAny_ite_split (fun _=>?_) (fun _=>u3u ⟨plainId_quiet PySem.F.plain_extend_loop _,key _ c₀ st (fun b o _ e=>keep b o e) hL1⟩);refine u3r (wpAny_rule (u3r ?_));show wpAny _ _ (updateSeq L (·.push .none) >>= fun _=>updateSeq L (·.pop)) _ _ _;refine u3r (wpAny_updateSeq hL1 rfl ?_);have hL₂:=u4x (Obj.mapSeq (·.push u6W)) hL1 rfl;refine wpAny_updateSeq (hz:=by seq_fits) hL₂ rfl ?_;have hL₃:=u4x (Obj.mapSeq (·.pop)) hL₂ rfl;refine u3u ⟨plainId_quiet PySem.F.plain_extend_loop _,key _ _ ?_ (fun b o hb e=>?_) hL₃⟩
 ·refine W.frame 0 _ _ st fun b hb o e=>?_;have hbL:b≠L:=fun z=>hLf (z▸hb);exact (u5B _ _ (Ne.symm hbL)).trans ((u5B _ _ (Ne.symm hbL)).trans e)
 ·exact (u5B _ _ (Ne.symm hb)).trans ((u5B _ _ (Ne.symm hb)).trans (keep _ _ e))
theorem z5y {R:List Value->Shared->Prop} (hh:A.handled=none) (hs:SetAt s.heap S es ep t) (hf:t.fits es.size=true) (ht:qh (kG w) t) (hz:es.size<scanBound)
  (h:∀(h':Heap) (d':Drawn) (tk:Nat) (acc:Array Value),(∀b o,s.heap.get? b=some o->h'.get? b=some o)->y6b es acc->R acc.toList { s with heap:=h',drawn:=d',toks:=tk }) :
  wpAny (model prog w) A (collect (.ref S)) R E s:=by
 obtain⟨oS,hoS,hex,hdS⟩:=id hs;have hlt:S<s.heap.objs.size:=u4D hoS;unfold collect;refine u3r (wpAny_runValue (u5u entry_proto_collect' ?_));rw[u5f PySem.F.plain_proto_collect _];refine u3r (m:=newList []) (u4r ?_);refine u3u ⟨plainId_quiet PySem.F.plain_list_iadd _,u5u entry_list_iadd' ?_⟩;rw[u5f PySem.F.plain_list_iadd _];have hL:(s.heap.push { cls:=.type "list",data:=.seq ([]:List Value).toArray }).get? s.heap.objs.size=some { cls:=.type "list",data:=.seq #[] }:=u4C _ rfl;have key:=z8S (prog:=prog) (A:=A) (s:={ s with heap:=s.heap.push { cls:=.type "list",data:=.seq ([]:List Value).toArray } })
  (R:=fun (q:Result) (s':Shared)=>∃(h':Heap) (d':Drawn) (tk:Nat) (acc':Array Value) (c':Nat),q=.ok (.ret (.ref s.heap.objs.size))/\s' = { s with heap:=h',drawn:=d',toks:=tk }/\(∀b o,s.heap.get? b=some o->h'.get? b=some o)/\h'.get? s.heap.objs.size=some { cls:=.type "list",dict:=none,data:=.seq acc' c',slots:=#[] }/\y6b es acc')
  hh (hs.keep fun o e=>u3v _ e) hf ht hz s.heap.objs.size (Nat.ne_of_gt hlt) (.ref s.heap.objs.size) 0 hL
  (fun h' d' tk acc' c' hk hS' hacc=>⟨h',d',tk,acc',c',rfl,rfl,fun b o e=>hk b o (u4c (u4D e)) (u3v _ e),hS',hacc⟩)
 show wpAny _ A.in1 (Builtin.List.listExtendWith (.ref s.heap.objs.size) (.ref S) (.ref s.heap.objs.size)) _ _ _;refine u5E key (fun fin s' x=>?_) fun e s' x=>?_
 ·cases fin with
  | done f=>
   obtain⟨h',d',tk,acc',c',e,rfl,hk,hS',hacc⟩:=x;cases e;exact u3r (wpAny_load hS' (u3u (h h' d' tk acc' hk hacc)))
  | again c₁=>
   refine⟨x.1,codeAny_mono x.2 fun q s₂ y=>?_⟩;obtain⟨h',d',tk,acc',c',rfl,rfl,hk,hS',hacc⟩:=y;exact u3r (wpAny_load hS' (u3u (h h' d' tk acc' hk hacc)))
 ·obtain⟨_,_,_,_,_,e',_⟩:=x;cases e'
end
open PySem.Calls
noncomputable def y5N (prog:Program) (w:World) (a:Addr) (S:Int->Bool) (n:Nat):HO:=.ext fun h=>SetG prog w h a S n
theorem wf:∀ {us:List Value} {ns:List Int},IntsAre us ns->Vals (ns.map V.int) us
 | _,_,.nil=>.nil
 | _,_,.cons n t h=>.cons ⟨t,rfl⟩ (wf h)
theorem z5A {prog:Program} {w:World}:∀ {l:List Value},(∀v∈l,∃k,(intKind prog w).is k v=true)->∃ns,IntsAre l ns/\∀k,k∈ns ↔ ∃v∈l,(intKind prog w).is k v=true
 | [],_=>⟨[],.nil,fun k=>by simp⟩
 | v::l,h=>by
  obtain⟨ns,h1,h2⟩:=z5A (l:=l) fun x hx=>h x (by simp [hx]);obtain⟨k,hk⟩:=h v (by simp);obtain⟨t,rfl⟩:=Value.isInt_shape (show Value.isInt k v=true from hk);refine⟨k::ns,.cons k t h1,fun j=>?_⟩;rw[u3w,h2 j];constructor
  ·rintro (rfl|⟨x,hx,e⟩)
   ·exact⟨_,.head _,hk⟩
   ·exact⟨x,.tail _ hx,e⟩
  ·rintro⟨x,hx,e⟩;rcases u3w.mp hx with rfl|hx
   ·exact .inl ((intKind prog w).inj _ _ _ e hk)
   ·exact .inr ⟨x,hx,e⟩
theorem Inv.dr {X:Cx} {pins:List (Addr×Obj)} {σ:St} {H:Hp} {s:Shared} {d':Drawn} (I:Inv X pins σ H s):Inv X pins σ H { s with drawn:=d' }:=⟨I.ok,I.os,I.bare,I.base,I.loc,I.cell,I.free,I.freeC,I.pin,I.hok,I.len⟩
section
variable {prog:Program} {w:World} {A:Around} {E:Value->Shared->Prop} {s:Shared}
theorem z5c {S:Addr} {f:Int->Bool} {n:Nat} {Q:Value->Shared->Prop} (hh:A.handled=none) (hS:SetG prog w s.heap S f n) (hn:n<64)
  (h:∀(h1 h':Heap) (d':Drawn) (tk:Nat) (out:Array Value) (ns:List Int) (c:Nat),(∀b o,s.heap.get? b=some o->h1.get? b=some o)->(∀b o,h1.get? b=some o->h'.get? b=some o)->h'.get? h1.objs.size=some { cls:=.type "list",data:=.seq out c }->IntsAre out.toList ns->ns.length=n->(∀k,f k=true ↔ k∈ns)->ns.Pairwise (·<=·)->
   Q (.ref h1.objs.size) { s with heap:=h',drawn:=d',toks:=tk }):wpAny (model prog w) A (call (.builtin "sorted") [.ref S]) Q E s:=by
 obtain⟨o,es,ep,t,ho,hex,hd,hel,hmem,hb,hf,rfl,ht⟩:=hS;refine call_function_entry kind_sorted plain_sorted entry_sorted (args_sorted1 _) ?_;unfold Builtin.«sorted»;refine u3r (m:=checkCount "sorted" 1 1 _) (u3u ?_);refine u3r (z5y (A:=A.in1) hh ⟨_,ho,hex,hd⟩ hf ht hb fun h1 d1 tk acc keep took=>?_);obtain⟨order,hp,ea⟩:=took;have hl:acc.toList.length=es.size:=by rw[ea,u3z,hp.length_eq,u4P]
 obtain⟨ns,hI,hns⟩:=z5A (prog:=prog) (w:=w) (l:=acc.toList) fun v hv=>by
  rw[ea] at hv;obtain⟨e,he,rfl⟩:=u4l.mp hv;obtain⟨k,hk,_⟩:=(hel e (hp.mem_iff.mp he)).1;exact⟨k,hk⟩
 refine u3r (wpAny_newList ?_ (by rw[hl];exact fits_of_scanBound hb));have hD:(h1.push { cls:=.type "list",data:=.seq acc.toList.toArray }).get? h1.objs.size=some (seqObj "list" acc.toList.toArray 0):=u4C _ rfl;refine u3r (wpAny_holding (u5S slot_list_sort ⟨_,hD,rfl⟩ entry_list_sort (list_sort_tree hD hI (by omega) fun out ns' hI' hpn hpw=>⟨.none,rfl,?_⟩) (args_list_sort _)));obtain⟨c,hc⟩:=sortedHeap_at (out:=out) hD;refine u3u ⟨_,rfl,h h1 _ d1 tk out ns' c keep (fun b o e1=>?_) hc hI' ?_ (fun k=>?_) hpw⟩
 ·rw[sortedHeap_old (u4c (u4D e1)) (by rw[size_push'];exact Nat.lt_succ_of_lt (u4D e1))];exact u3v _ e1
 ·rw[hpn.length_eq,←hI.length,hl]
 ·rw[hpn.mem_iff,hns k,hmem k,ea];constructor
  ·rintro⟨e,he,q⟩;exact⟨e.2,u4l.mpr ⟨e,hp.mem_iff.mpr he,rfl⟩,q⟩
  ·rintro⟨v,hv,q⟩;obtain⟨e,he,rfl⟩:=u4l.mp hv;exact⟨e,hp.mem_iff.mp he,q⟩
end
section
variable {X:Cx}
theorem z5b (hc:X.calm=true):CallR X (.builtin "sorted") (fun vs H Q=>∃(S:Addr) (f:Int->Bool) (n:Nat),vs=[.ref S]/\H S=some (y5N X.prog X.w S f n)/\n<64/\∀(D:Addr) (ns:List Int),H D=none->ns.length=n->(∀k,f k=true ↔ k∈ns)->ns.Pairwise (·<=·)->Q (.ref D) (upd H D (.lst (ns.map V.int)))):=by
 intro pins s σ H vs us Q I r h;obtain⟨S,f,n,rfl,hS,hn,q⟩:=h;obtain⟨u,rfl,r1⟩:=Vals.one r;cases r1;have hG:SetG X.prog X.w s.heap S f n:=(I.hok S _ hS).1;refine z5c (I.ok.hd hc) hG hn fun h1 h' d' tk out ns c k1 k2 hD hI hl hm hp=>?_;have I1:Inv X pins σ H { s with heap:=h1,toks:=tk }:=I.kept k1;have I2:Inv X pins σ (upd H h1.objs.size (.lst (ns.map V.int))) { s with heap:=h',toks:=tk }:=I1.laid (h':=h') (t':=tk) k2 (u3y _) ⟨by rw[u3z,u4Q];omega,out.toList,c,wf hI,by rw[Array.toArray_toList];exact hD⟩;exact⟨.ref _,_,I2.dr,rfl,q _ ns I1.fresh hl hm hp⟩
end
noncomputable def y4z (X:Cx) (N:List Str) (scope:Scope) (cl:List (Str×Addr)) (s:Shared) (H:Hp) (fp:List Addr) (E:XK):Cx:=
 (xL X N scope cl s H fp).wish fun e s'=>∃pins σ H1 s1,Inv (xL X N scope cl s H fp) pins σ H1 s1/\CXx X.prog X.w X.stack H1 s1 E e s'
theorem kx {X:Cx} {N:List Str} {scope:Scope} {cl:List (Str×Addr)} {s:Shared} {H:Hp} {fp:List Addr} {E:XK}:(y4z X N scope cl s H fp E).K=X.K:=rfl
section
variable {X:Cx} {pins:List (Addr×Obj)} {σ:St} {H:Hp} {s:Shared}
end
section
variable {prog:Program} {w:World} {A:Around} {E:Value->Shared->Prop} {s:Shared}
end
section
variable {prog:Program} {w:World} {A:Around} {E:Value->Shared->Prop} {s:Shared}
end
noncomputable def y8E (n:Nat) (ok:Hp->Prop) (f:Nat->Hp->V->V->V->Prop):It:=
 ⟨fun i H=>i<n/\ok H,fun i H x H'=>∃T u v t,H T=none/\x=.ref T/\H'=upd H T (.tup [u,v,t])/\f i H u v t,fun i H=>i=n/\ok H⟩
noncomputable def y7u (K:u3q) (a b c:Addr) (n:Nat) (H:Hp):Prop:=∃xs ys zs,SqL K H a xs/\SqL K H b ys/\SqL K H c zs/\min (min xs.length ys.length) zs.length=n
noncomputable def y7b (K:u3q) (a b c:Addr) (n:Nat):It:=y8E n (y7u K a b c n) fun i H u v t=>(∀xs,SqL K H a xs->xs[i]?=some u)/\(∀ys,SqL K H b ys->ys[i]?=some v)/\∀zs,SqL K H c zs->zs[i]?=some t
noncomputable def y6r (K:u3q) (ta tb tc:TE):TI:=fun σ H R=>ta σ H fun x H1=>tb σ H1 fun y H2=>tc σ H2 fun z H3=>∃a b c xs ys zs,x=.ref a/\y=.ref b/\z=.ref c/\SqL K H3 a xs/\SqL K H3 b ys/\SqL K H3 c zs/\R (y7b K a b c (min (min xs.length ys.length) zs.length)) H3
section
variable {X:Cx} {es:List Expr} {k:Nat} {tpos:Pos}
end
theorem vd {K:u3q} {ta tb tc:TE} {σ:St} {H:Hp} {R:It->Hp->Prop}:y6r K ta tb tc σ H R=ta σ H fun x H1=>tb σ H1 fun y H2=>tc σ H2 fun z H3=>∃a b c xs ys zs,x=.ref a/\y=.ref b/\z=.ref c/\SqL K H3 a xs/\SqL K H3 b ys/\SqL K H3 c zs/\R (y7b K a b c (min (min xs.length ys.length) zs.length)) H3:=rfl
section
variable {X:Cx}
end
section
variable {X:Cx}
end
open PySem.W
noncomputable def y6l (C C':Addr) (bm:List Value):List V->Hp->VK->Prop:=fun xs H Q=>∃a,xs=[.ref a,.ref C']/\H a=some (y1d a (.ref C))/\Q (.bl ((u4J C::bm).contains (.ref C'))) H
theorem xg {X:Cx} {x x':Str} {C C':Addr} {bm bm':List Value} (Z:OC X.K C) (O:OX X.K X.mg x C bm) (ho:(u4J C::bm).contains (.type "object")=true) (O':OX X.K X.mg x' C' bm'):CallR X (.builtin "isinstance") (y6l C C' bm):=by
 intro pins s σ H xs us Q I r h;obtain⟨a,rfl,ha,q⟩:=h;obtain⟨u,c,rfl,r1,r2⟩:=Vals.two r;obtain rfl:c=u4J C':=r2;obtain rfl:u=u4J a:=r1;have hoa:=(show ObjOk X.prog X.w H s.heap a (y1d a (.ref C)) from I.hok a _ ha)
 exact kia_one (y2p Z O ho) I.kIn hoa.1 (z8i O O') (fun z=>nomatch z) fun tk=>⟨.bl _,H,I.tok tk,rfl,q⟩
open SM
theorem z4z {v:Value} {o:Option Int} (h:IsPart v o):∃l:Option (Int×Tok),v=partValue l/\l.map (·.1)=o:=by
 cases h with
 | none=>exact⟨none,rfl,rfl⟩
 | int i t=>exact⟨some (i,t),rfl,rfl⟩
noncomputable def y7m:V->Option Int->Option Int->Hp->VK->Prop:=fun x lo hi H Q=>∃z,x=.str z/\z.length<=u4L/\Q (.str (u6e z lo hi)) H
section
variable {X:Cx}
theorem z4N:SlR X y7m:=by
 intro pins s σ H x v vl vu lo hi sl Q I rx hs pl pu h;obtain⟨z,rfl,hz,q⟩:=h;obtain⟨t,rfl⟩:=rx;obtain⟨l,rfl,rfl⟩:=z4z pl;obtain⟨u,rfl,rfl⟩:=z4z pu;refine⟨"str",_,F.slot_str_getitem.lookup,u6j _ _ _,wpAny_getItem_str_slice (l:=l) (u:=u) (st:=none) hs rfl ?_⟩;exact post_val_or_str ⟨u5I (Txt.slice_le z _ _) hz,fun t' k=>⟨.str _,H,I.tok _,⟨_,rfl⟩,q⟩⟩
theorem z2w {i:Nat} {x:Str} {e:Expr} {te:XK->TE} {pos' pos:Pos} (hN:X.N.Nodup) (hi:X.N[i]?=some x) (hx:Loc X.env.scope x) (he:PXe X e te) (hs:swapsWith e (some (.Name x pos')) pos.line X.env=pure false:=by rfl) (hf:X.fn x=true∨X.env.scope.names.lookup x=some .local:=by first|exact .inl rfl|exact .inr rfl|assumption) :
  PXs X [.Assign [.Name x pos'] e pos] fun E=>y5f (te E) (qf i):=by
 intro pins s σ H D E I h;refine wpAny_execs_cons (wpAny_Assign_Name (thn (he pins s σ H _ E I h) fun v s1 ⟨y,H1,I1,r1,q1⟩=>?_) hs);exact qO I1 hN hi hx r1 (fun s2 I2=>wpAny_execs_nil ⟨_,H1,I2,q1⟩) hf
end
theorem y1Y {z:Str}:Asc z ↔ ∀c∈z.cps.toList,c<128:=by
 unfold Asc;rw[Array.all_eq_true_iff_forall_mem];exact⟨fun h c hc=>of_decide_eq_true (h c (Array.mem_toList_iff.mp hc)),fun h c hc=>decide_eq_true (h c (Array.mem_toList_iff.mpr hc))⟩
theorem z8H {l:List Nat}:Asc (tx l) ↔ ∀c∈l,c<128:=by
 rw[y1Y];simp [tx]
theorem y4D (y z:Str):(y++z).cps.toList=y.cps.toList++z.cps.toList:=by
 show (y.cps++z.cps).toList=_;simp
theorem y1Z (bs:List Bool):(u6X bs.length).all (fun i=>bs.getD i false)=bs.all id:=by
 rw[u6D,u5y,u5y];constructor
 ·intro h b hb;obtain⟨i,hi,e⟩:=List.getElem_of_mem hb;have:=h i (u5j.mpr hi);rw[u4M,u4A hi,e] at this;exact this
 ·intro h i hi;have hi:=u5j.mp hi;rw[u4M,u4A hi];exact h _ (u5T hi)
theorem z5d {X:Cx} (hc:X.calm=true):CallR X (.builtin "all") (fun vs H Q=>∃(a:Addr) (bs:List Bool),vs=[.ref a]/\SqL X.K H a (bs.map V.bl)/\Q (.bl (bs.all id)) H):=by
 intro pins s σ H xs us Q I r h;obtain⟨a,bs,rfl,hq,q⟩:=h;obtain⟨u,rfl,r1⟩:=Vals.one r;cases r1;obtain⟨its,rv,pl,hz⟩:=I.list hq;have hl:=pl.isList;have la:a<s.heap.objs.size:=by obtain⟨o,e,_⟩:=hl;exact u4D e
 have ne:a≠s.heap.objs.size:=u4c la;refine call_all_walkS (wpAny_pyIter_list hl ?_);have WS:=(Walks.list (prog:=X.prog) (w:=X.w) (A:=X.A.in1) (I.ok.hd hc) s.heap.objs.size a ne its.toArray).toS;refine⟨_,_,_,_,_,_,_,fun i=>bs.getD i false,rfl,WS,⟨⟨_,u4C _ rfl,rfl,rfl⟩,hl.push _⟩,fun i v s' Q' E' hv hq'=>?_,fun s' mv=>?_⟩
 ·have hv':its[i]?=some v:=by simpa using hv
  have hi:i<(bs.map V.bl).length:=by rw[rv.length];exact (u4K.mp hv').1
  obtain⟨u,e1,r2⟩:=rv.get (u4A hi);rw[hv'] at e1;cases e1;rw[u3z] at hi;rw[List.getElem_map] at r2;cases r2;have hq2:Q' (bs.getD i false) s':=hq';rw[u4M,u4A hi] at hq2;exact u6Y hq2
 ·have e:(u6X its.toArray.size).all (fun i=>bs.getD i false)=bs.all id:=by
   have:its.toArray.size=bs.length:=by
    have:=rv.length;rw[u3z] at this;simp [this]
   rw[this];exact y1Z bs
  rw[e,Moved.eq_with mv];refine⟨.bl (bs.all id),H,I.kept fun b o e=>mv.heap b o (fun z=>?_) (u3v _ e),rfl,q⟩;exact absurd (u4D e) (by rw[u4O.mp z];exact u5n _)
noncomputable def TM (K:u3q) (C:Addr) (x qual:Str) (st:Stmt):Prop:=∃f fd,Fun K x qual st f fd/\Meth K C x f
theorem z2K {K:u3q} {C:Addr} {x qual:Str} {st:Stmt} {f:Addr} {oc:Value} {od an:Option Addr} {osl:Array (Option Value)} {kV doc pm cdv ct:Value}
  (a:u5r K (.ref C) x=some (some (.ref f))) (i:PySem.W.isFn K (.ref f)=true) (l:K.lookup f=some ⟨oc,od,.func (u6F x qual (xz st) (yb st) (zK st) .none kV doc pm an cdv ct),osl⟩) (c:PySem.W.codeIn K cdv qual=true) (k:u5L K (.ref f)=true):TM K C x qual st:=
 ⟨f,_,y3k l c k,a,i,k⟩
noncomputable def HasM (P:Program) (w:World) (K:u3q) (mg:Str->Option Value) (base:Heap) (k:Nat) (C:Addr) (x:Str) (ps:List Str) (sp:Sp):Prop:=
 ∃f fd,FnOk P w K mg base CX0 k f fd ps sp/\(∀us:List Value,us.length=ps.length->bindArgs fd ⟨us,[]⟩=pure (ps.zip us))/\Meth K C x f
theorem HasM.mono {P:Program} {w:World} {K:u3q} {mg:Str->Option Value} {base:Heap} {j k:Nat} {C:Addr} {x:Str} {ps:List Str} {sp:Sp} (h:HasM P w K mg base j C x ps sp) (hk:j<=k):HasM P w K mg base k C x ps sp:=
 let ⟨f,fd,F,b⟩:=h
 ⟨f,fd,F.mono hk,b⟩
theorem TM.has {P:Program} {w:World} {K:u3q} {mg:Str->Option Value} {base:Heap} {C:Addr} {x qual:Str} {st:Stmt} {N ps:List Str} {k:Nat} {sp:Sp} (T:TM K C x qual st) (S:FnScope N ps (zK st))
  (hb:∀(kV doc pm:Value) (an:Option Addr) (cdv ct:Value) (us:List Value),us.length=ps.length->bindArgs (u6F x qual (xz st) (yb st) (zK st) .none kV doc pm an cdv ct) ⟨us,[]⟩=pure (ps.zip us))
  (len:∀vs H Q E,sp vs H Q E->vs.length=ps.length)
  (hbody:∀(f:Addr) (cdv:Value) (A:Around) (outer:List Env) (s:Shared) (H:Hp) (vs:List V) (Q:VK) (E:XK),Room k (A.deeper (envOfC qual (zK st) s.heap.objs.size f cdv))->sp vs H Q E->
   ∃t,PSs (z1G CX0 P w K mg base N qual (zK st) f cdv A outer s H E).nox (yb st) t/\t { nx:=fun _ H'=>Q .non H',rt:=Q } (j8 N vs) H):HasM P w K mg base (k+1) C x ps sp:=by
 obtain⟨f,fd,F,m⟩:=T;have ok:=F.ok (P:=P) (w:=w) (mg:=mg) (base:=base) S len fun cdv A outer s H vs Q E hr hsp=>hbody f cdv A outer s H vs Q E hr hsp;obtain⟨oc,od,kV,doc,pm,an,cdv,ct,osl,rfl,lk,hcd⟩:=F.ex;exact⟨f,_,ok,hb kV doc pm an cdv ct,m⟩
section
variable {X:Cx} {k:Nat} {C:Addr} {ps:List Str} {sp:Sp} {x m:Str} {p pos apos:Pos} {e o:Expr} {es:List Expr} {ta:TE} {t:TA}
theorem qD {pl:Sem Bool} (he:PE X o ta) (c:Cls X.K C) (h:HasM X.prog X.w X.K X.mg X.base k C m ps sp) (hr:Room k X.A) (ha:PA X (e::es) t)
  (hst:u4W (e::es) X.env=(false,eval e X.env)::u4W es X.env:=by rfl) (hpl:(backTo pos (u4W es X.env)).any (·.1)=false:=by rfl)
  (ht:eval (.Call (.Attribute o m apos) (e::es) [] pos) X.env=(do
   let ov ←eval o X.env
   standAt apos.atName
   let (f,first) ←holding [ov] (getMethod ov m pl)
   callWith pos f first (backTo pos (u4W (e::es) X.env)) (backToKw pos (keywordEach [] X.env))):=by rfl) :
  PE X (.Call (.Attribute o m apos) (e::es) [] pos) (z5r C m sp [] E0 ta t):=by
 obtain⟨f,fd,F,hb,hm⟩:=h;exact z9y he c hm F hr (.all hb) .nil y0B ha hst hpl ht
theorem z9x {pl:Sem Bool} (he:PE X o ta) (c:Cls X.K C) (h:HasM X.prog X.w X.K X.mg X.base k C m ps sp) (hr:Room k X.A)
  (ht:eval (.Call (.Attribute o m apos) [] [] pos) X.env=(do
   let ov ←eval o X.env
   standAt apos.atName
   let (f,first) ←holding [ov] (getMethod ov m pl)
   callWith pos f first (backTo pos (u4W [] X.env)) (backToKw pos (keywordEach [] X.env))):=by rfl) :
  PE X (.Call (.Attribute o m apos) [] [] pos) (z5r C m sp [] E0 ta y1b):=by
 obtain⟨f,fd,F,hb,hm⟩:=h;exact y2R he c hm F hr (.all hb) .nil y0B ht
theorem y6p (h:HasM X.prog X.w X.K X.mg X.base k C "__init__" ps sp) (mk:u6d X.K C=true) (kc:u5L X.K (.ref C)=true) (hr:Room (k+1) X.A) (hg:Gl X x) (hm:X.mg x=some (.ref C))
  (ha:PA X (e::es) t) (hdb:(x == ("__debug__" : Str))=false:=by decide) (he:u4W (e::es) X.env=(false,eval e X.env)::u4W es X.env:=by rfl) (hpl:(backTo pos (u4W es X.env)).any (·.1)=false:=by rfl) :
  PE X (.Call (.Name x p) (e::es) [] pos) (z9V C sp [] E0 t):=by
 obtain⟨f,fd,F,hb,hM⟩:=h;exact y4V ⟨mk,hM.at_,hM.fn,kc⟩ F hr hg hm (.all hb) .nil y0B ha hdb he hpl
end
noncomputable def y7M (te:TE):TE:=fun σ H Q=>te σ H fun x H1=>(∃i,x=.int i/\i.natAbs.log2<1920/\Q (.str (toString i)) H1)∨∃z,x=.str z/\z.length<=u4L/\Q (.str z) H1
noncomputable abbrev TJ:=Str->TE
noncomputable def y7U:TJ:=fun acc _ H Q=>acc.length<=u4L/\Q (.str acc) H
noncomputable def y6K (te:TE) (tj:TJ):TJ:=fun acc σ H Q=>te σ H fun x H1=>∃z,x=.str z/\(acc++z).length<=u4L/\tj (acc++z) σ H1 Q
noncomputable def y5a (tj:TJ):TE:=fun σ H Q=>tj Str.empty σ H Q
section
variable {σ:St} {H:Hp} {Q:VK} {te:TE} {tj:TJ} {acc:Str}
theorem z2X:y7M te σ H Q=te σ H fun x H1=>(∃i,x=.int i/\i.natAbs.log2<1920/\Q (.str (toString i)) H1)∨∃z,x=.str z/\z.length<=u4L/\Q (.str z) H1:=rfl
theorem z3M:y7U acc σ H Q=(acc.length<=u4L/\Q (.str acc) H):=rfl
theorem vc:y6K te tj acc σ H Q=te σ H fun x H1=>∃z,x=.str z/\(acc++z).length<=u4L/\tj (acc++z) σ H1 Q:=rfl
theorem vX:y5a tj σ H Q=tj Str.empty σ H Q:=rfl
end
section
variable {X:Cx} {e a b:Expr} {es:List Expr} {te:TE} {tj:TJ} {pos:Pos}
noncomputable def PJ (X:Cx) (es:List Expr) (tj:TJ):Prop:=∀(pins:List (Addr×Obj)) (s:Shared) (σ:St) (H:Hp) (acc:Str) (Q:VK),Inv X pins σ H s->tj acc σ H Q->wpAny (model X.prog X.w) X.A (joinParts acc (evalEach es X.env)) (EP X pins σ Q) X.xe s
theorem z4f:PJ X [] y7U:=by
 intro pins s σ H acc Q I h;exact joinParts_nil ⟨.str acc,H,I.tok _,⟨_,rfl⟩,h.2⟩ h.1
theorem yl (he:PE X e te) (hj:PJ X es tj):PJ X (e::es) (y6K te tj):=by
 intro pins s σ H acc Q I h;refine joinParts_cons (thn (he pins s σ H _ I h) fun v s1 ⟨x,H1,I1,r1,q1⟩=>?_);obtain⟨z,rfl,hz,q⟩:=q1;obtain⟨t,rfl⟩:=r1;exact⟨hz,hj pins s1 σ H1 _ Q I1 q⟩
theorem z0f (hj:PJ X (a::b::es) tj):PE X (.JoinedStr (a::b::es) pos) (y5a tj):=by
 intro pins s σ H Q I h;exact JoinedStr_many (hj pins s σ H _ Q I h)
theorem z0g (he:PE X e te):PE X (.FormattedValue e (-1) none pos) (y7M te):=by
 intro pins s σ H Q I h;refine FormattedValue_plain (thn (he pins s σ H _ I h) fun v s1 ⟨x,H1,I1,r1,q1⟩=>?_);rcases q1 with⟨i,rfl,hi,q⟩|⟨z,rfl,hz,q⟩
 ·obtain⟨t,rfl⟩:=r1;exact formatField_int_small hi ⟨.str _,H1,I1.tok _,⟨_,rfl⟩,q⟩
 ·obtain⟨t,rfl⟩:=r1;exact formatField_str (fun t' tk=>⟨.str _,H1,I1.tok _,⟨_,rfl⟩,q⟩) hz
theorem z8d:MtR X "str.startswith" (fun x vs H Q=>∃(z y:Str) (i:Int),x=.str z/\vs=[.str y,.int i]/\Q (.bl (decide (PySem.fromIndex z.length i+y.length<=z.length) && u5V z y (PySem.fromIndex z.length i))) H):=by
 intro pins s σ H x vs v us Q I rx rs h;obtain⟨z,y,i,rfl,rfl,q⟩:=h;obtain⟨t,rfl⟩:=rx;obtain⟨u,w,rfl,r1,r2⟩:=Vals.two rs;obtain⟨t1,rfl⟩:=r1;obtain⟨t2,rfl⟩:=r2;exact call_gives u6f (u6j _ _ _) PySem.F.entry_str_startswith (PySem.F.args_str_startswith_3 _ _ _) (gives_str_startswith_from z y i t t1 t2) ⟨.bl _,H,I.tok _,rfl,q⟩
end
section
variable {K:u3q} {σ:St} {H:Hp} {Q:VK} {D:Ends} {ta tv:TE} {t:TA} {f m:Str} {C:Addr} {sp:Sp} {dvs:List V} {E:XK} {rd:V->V->Hp->VK->Prop}
theorem z2Y:y7N K ta f σ H Q=ta σ H fun x H1=>∃a C dx fs v,x=.ref a/\H1 a=some (.ins C dx fs)/\Cls K C/\NoAttr K C f/\fs.lookup f=some v/\Q v H1:=rfl
theorem z2s:y7R K ta tv f D σ H=tv σ H fun y H1=>ta σ H1 fun x H2=>∃a C dx fs,x=.ref a/\H2 a=some (.ins C dx fs)/\Cls K C/\NoAttr K C f/\fs.length<1000/\D.nx σ (upd H2 a (.ins C dx (vL f y fs))):=rfl
theorem qU:z9n K ta tv rd f D σ H=ta σ H fun x H1=>∃a C dx fs v,x=.ref a/\H1 a=some (.ins C dx fs)/\Cls K C/\NoAttr K C f/\fs.lookup f=some v/\tv σ H1 fun y H2=>rd v y H2 fun z H3=>∃dx' fs',H3 a=some (.ins C dx' fs')/\fs'.length<1000/\D.nx σ (upd H3 a (.ins C dx' (vL f z fs'))):=rfl
theorem vU:z5r C m sp dvs E ta t σ H Q=ta σ H fun x H1=>∃a dx fs,x=.ref a/\H1 a=some (.ins C dx fs)/\fs.lookup m=none/\t σ H1 fun vs H2=>sp (x::(vs++dvs)) H2 Q E:=rfl
theorem vW:z9V C sp dvs E t σ H Q=t σ H fun vs H1=>∀x dx,H1 x=none->H1 dx=none->dx≠x->sp (.ref x::(vs++dvs)) (upd (upd H1 dx (.own x)) x (.ins C dx [])) (fun v H2=>v=.non/\Q (.ref x) H2) E:=rfl
end
noncomputable def HasMX (P:Program) (w:World) (K:u3q) (mg:Str->Option Value) (base:Heap) (k:Nat) (C:Addr) (x:Str) (ps:List Str) (sp:Sp):Prop:=
 ∃f fd,FnOk P w K mg base (CXx P w) k f fd ps sp/\(∀us:List Value,us.length=ps.length->bindArgs fd ⟨us,[]⟩=pure (ps.zip us))/\Meth K C x f
theorem HasMX.mono {P:Program} {w:World} {K:u3q} {mg:Str->Option Value} {base:Heap} {j k:Nat} {C:Addr} {x:Str} {ps:List Str} {sp:Sp} (h:HasMX P w K mg base j C x ps sp) (hk:j<=k):HasMX P w K mg base k C x ps sp:=
 let ⟨f,fd,F,b⟩:=h
 ⟨f,fd,F.mono hk,b⟩
theorem TM.hasX {P:Program} {w:World} {K:u3q} {mg:Str->Option Value} {base:Heap} {C:Addr} {x qual:Str} {st:Stmt} {N ps:List Str} {k:Nat} {sp:Sp} (T:TM K C x qual st) (S:FnScope N ps (zK st))
  (hb:∀(kV doc pm:Value) (an:Option Addr) (cdv ct:Value) (us:List Value),us.length=ps.length->bindArgs (u6F x qual (xz st) (yb st) (zK st) .none kV doc pm an cdv ct) ⟨us,[]⟩=pure (ps.zip us))
  (len:∀vs H Q E,sp vs H Q E->vs.length=ps.length)
  (hbody:∀(f:Addr) (cdv:Value) (A:Around) (outer:List Env) (s:Shared) (H:Hp) (vs:List V) (Q:VK) (E:XK),Room k (A.deeper (envOfC qual (zK st) s.heap.objs.size f cdv))->sp vs H Q E->
   ∃t,PSs (z1G (CXx P w) P w K mg base N qual (zK st) f cdv A outer s H E) (yb st) t/\t { nx:=fun _ H'=>Q .non H',rt:=Q } (j8 N vs) H):HasMX P w K mg base (k+1) C x ps sp:=by
 obtain⟨f,fd,F,m⟩:=T;obtain⟨oc,od,kV,doc,pm,an,cdv,ct,osl,rfl,lk,hcd⟩:=F.ex;exact⟨f,_,y3D lk hcd S len fun A outer s H vs Q E hr hsp=>hbody f cdv A outer s H vs Q E hr hsp,hb kV doc pm an cdv ct,m⟩
section
variable {X:Cx} {k:Nat} {C:Addr} {ps:List Str} {sp:Sp} {x m:Str} {p pos apos:Pos} {e o:Expr} {es:List Expr} {ta:TE} {t:TA} {E:XK}
theorem z9w {pl:Sem Bool} (he:PE X o ta) (c:Cls X.K C) (h:HasMX X.prog X.w X.K X.mg X.base k C m ps sp) (hr:Room k X.A) (hx:qL (CXx X.prog X.w) X E) (ha:PA X (e::es) t)
  (hst:u4W (e::es) X.env=(false,eval e X.env)::u4W es X.env:=by rfl) (hpl:(backTo pos (u4W es X.env)).any (·.1)=false:=by rfl)
  (ht:eval (.Call (.Attribute o m apos) (e::es) [] pos) X.env=(do
   let ov ←eval o X.env
   standAt apos.atName
   let (f,first) ←holding [ov] (getMethod ov m pl)
   callWith pos f first (backTo pos (u4W (e::es) X.env)) (backToKw pos (keywordEach [] X.env))):=by rfl) :
  PE X (.Call (.Attribute o m apos) (e::es) [] pos) (z5r C m sp [] E ta t):=by
 obtain⟨f,fd,F,hb,hm⟩:=h;exact z9y he c hm F hr (.all hb) .nil hx ha hst hpl ht
end
section
variable {X:Cx}
end
end L2
namespace SM
open L2 PySem PySem.Builtin.Str
noncomputable def j5 (c:Nat):List Nat->Nat->List (List Nat)
 | [],_=>[[]]
 | x::xs,n=>if n=0 then [x::xs] else if x=c then []::j5 c xs (n-1) else match j5 c xs n with
  | h::t=>(x::h)::t
  | []=>[[x]]
theorem z1c (c x:Nat) (xs:List Nat) (n:Nat):j5 c (x::xs) n=if n=0 then [x::xs] else if x=c then []::j5 c xs (n-1) else match j5 c xs n with
  | h::t=>(x::h)::t
  | []=>[[x]]:=rfl
theorem z4F (c:Nat) (l:List Nat):j5 c l 0=[l]:=by
 cases l <;> simp [j5]
theorem j9 (c:Nat):∀(l:List Nat) (n:Nat),∃h t,j5 c l n=h::t
 | [],_=>⟨_,_,rfl⟩
 | x::xs,n=>by
  obtain⟨h,t,e⟩:=j9 c xs n;unfold j5;split
  ·exact⟨_,_,rfl⟩
  ·split
   ·exact⟨_,_,rfl⟩
   ·rw[e];exact⟨_,_,rfl⟩
theorem wU (z:Str) (c:Nat):∀(l:List Nat) (k i n:Nat),z.cps.toList.drop k=l->k+l.length=z.length->i<=k->
  (((i::((yc c l k).take n).map (· + 1)).zip ((yc c l k).take n++[z.length])).map fun (a,b)=>strSub z a b)=match j5 c l n with
   | h::t=>tx ((z.cps.toList.drop i).take (k-i)++h)::t.map tx
   | []=>[]
 | [],k,i,n,hd,hl,hi=>by
  simp only [yc,j5,List.take_nil,List.map_nil,u5a,List.zip_cons_cons,List.zip_nil_left,u4j,u5l];rw[xA];have:z.length=k:=by simpa using hl.symm
  rw[this]
 | x::xs,k,i,0,hd,hl,hi=>by
  rw[z4F];simp only [List.take_zero,List.map_nil,u5a,List.zip_cons_cons,List.zip_nil_left,u4j];rw[xA];congr 2;have lz:z.cps.toList.length=z.length:=by simp [u6N]
  have e1:(z.cps.toList.drop i).take (z.length-i)=z.cps.toList.drop i:=u5C (by rw[u4w];omega);have e2:(z.cps.toList.drop i).drop (k-i)=x::xs:=by rw[List.drop_drop,show i+(k-i)=k by omega,hd]
  rw[e1,←e2,List.take_append_drop]
 | x::xs,k,i,n+1,hd,hl,hi=>by
  have hd':z.cps.toList.drop (k+1)=xs:=by rw[←List.tail_drop,hd];rfl
  have hl':k+1+xs.length=z.length:=by rw[u3x] at hl;omega
  have hx:z.cps.toList[k]?=some x:=by
   have:(z.cps.toList.drop k)[0]?=some x:=by rw[hd];rfl
   rw[List.getElem?_drop] at this;exact this
  by_cases c1:x=c
  ·obtain⟨h,t,e⟩:=j9 c xs n;have ih:=wU z c xs (k+1) (k+1) n hd' hl' (u3y _);rw[e] at ih;simp only [Nat.sub_self,List.take_zero,u5a] at ih;have e0:j5 c (x::xs) (n+1)=[]::j5 c xs n:=by
    rw[z1c,if_neg (by omega),if_pos c1];rfl
   have e3:(yc c (x::xs) k).take (n+1)=k::(yc c xs (k+1)).take n:=by
    simp only [yc,c1,if_true,u6A]
   rw[e0,e3,e];simp only [u4j,u5G,List.zip_cons_cons,u5l];rw[ih,xA]
  ·obtain⟨h,t,e⟩:=j9 c xs (n+1);have ih:=wU z c xs (k+1) i (n+1) hd' hl' (by omega);rw[e] at ih;have e0:j5 c (x::xs) (n+1)=(x::h)::t:=by
    rw[z1c,if_neg (by omega),if_neg c1,e]
   have e3:yc c (x::xs) k=yc c xs (k+1):=by
    simp only [yc,c1,if_false]
   rw[e0,e3,ih];have e2:(z.cps.toList.drop i).take (k+1-i)=(z.cps.toList.drop i).take (k-i)++[x]:=by
    rw[show k+1-i=(k-i)+1 by omega,u4N,List.getElem?_drop,show i+(k-i)=k by omega,hx];rfl
   simp only [e2,u4m,List.singleton_append]
theorem z0j (z:Str) (c lim:Nat):∀(l:List Nat) (k:Nat) (st:Array Nat×Nat),z.cps.toList.drop k=l->k+l.length=z.length->st.2<=k->
  (forIn (u6O k (l.length+1)) st (u4V z ⟨#[c]⟩ z.length lim)).run.fst.toList=st.1.toList++(yc c l k).take (lim-st.1.size)
 | [],k,st,hd,hl,h2=>by
  have hk:k=z.length:=by simpa using hl
  show (forIn [k] st (u4V z ⟨#[c]⟩ z.length lim)).run.fst.toList=_;rw[u6J];unfold u4V;rw[if_neg (fun h=>by have:=h.1.2;simp [u6N] at this hk;omega)];simp [yc]
 | x::xs,k,st,hd,hl,h2=>by
  have hd':z.cps.toList.drop (k+1)=xs:=by rw[←List.tail_drop,hd];rfl
  have hl':k+1+xs.length=z.length:=by rw[u3x] at hl;omega
  show (forIn (k::u6O (k+1) (xs.length+1)) st (u4V z ⟨#[c]⟩ z.length lim)).run.fst.toList=_;rw[u6J];by_cases c1:x=c/\st.1.size<lim
  ·have hb:u4V z ⟨#[c]⟩ z.length lim k st=pure (u5m (st.fst.push k,k+1)):=by
    unfold u4V;exact if_pos ⟨⟨⟨c1.2,h2⟩,by show k+1<=z.length;omega⟩,(z2g z c k hd).mpr c1.1⟩
   rw[hb];have ih:=z0j z c lim xs (k+1) (st.fst.push k,k+1) hd' hl' (u3y _);have e:lim-st.1.size=(lim-(st.1.push k).size)+1:=by rw[Array.size_push];omega
   simp only [yc,c1.1,if_true];refine Eq.trans ih ?_;rw[e,u6A];simp
  ·have hb:u4V z ⟨#[c]⟩ z.length lim k st=pure (u5m (st.fst,st.snd)):=by
    unfold u4V;exact if_neg fun h=>c1 ⟨(z2g z c k hd).mp h.2,h.1.1.1⟩
   rw[hb];have ih:=z0j z c lim xs (k+1) (st.fst,st.snd) hd' hl' (by show st.2<=k+1;omega);refine Eq.trans ih ?_;by_cases c2:x=c
   ·have:lim-st.1.size=0:=by
     rcases Nat.lt_or_ge st.1.size lim with z1|z1
     ·exact absurd ⟨c2,z1⟩ c1
     ·omega
    simp only [this,List.take_zero]
   ·simp only [yc,c2,if_false]
theorem kf (z:Str) (c lim:Nat):occurrences z ⟨#[c]⟩ 0 z.length lim=(yc c z.cps.toList 0).take lim:=by
 rw[StrLaws.occ_eq];have:=z0j z c lim z.cps.toList 0 (#[],0) rfl (by simp [u6N]) (u3y _);have e:z.length+1-0=z.cps.toList.length+1:=by simp [u6N]
 rw[e,this];simp
theorem z4E (z:Str) (c n:Nat) (hc:c<256):Txt.splitMax z ⟨#[c]⟩ (n:Int)=(j5 c z.cps.toList n).map tx:=by
 have lim:limitOf z (n:Int)=n:=by
  unfold limitOf;rw[if_neg (by omega)];omega
 have main:partsBetween z (occurrences z ⟨#[c]⟩ 0 z.length (limitOf z n)) 1=(j5 c z.cps.toList n).map tx:=by
  rw[lim,kf];unfold partsBetween;have:=wU z c z.cps.toList 0 0 n rfl (by simp [u6N]) (u3y _);obtain⟨h,t,e⟩:=j9 c z.cps.toList n;rw[e] at this ⊢;simp only [Nat.sub_self,List.take_zero,u5a] at this;exact this
 have one:(yc c z.cps.toList 0).take n=[]->(j5 c z.cps.toList n).map tx=[z]:=fun e=>by
  rw[←main,lim,kf,e];have e3:(z.cps.toList.take z.cps.size)=z.cps.toList:=u5C (by simp);simp [partsBetween,xA,u6N,e3,yn]
 unfold Txt.splitMax;split
 ·rename_i h
  have k1:u5A ⟨#[c]⟩=1:=by simp [u5A,hc]
  have kz:1<=u5A z:=by unfold u5A;split <;> (try split) <;> decide
  have lz:z.length=0:=by
   rw[k1,Bool.or_eq_true,decide_eq_true_eq,decide_eq_true_eq] at h;have e1:(⟨#[c]⟩:Str).length=1:=rfl;omega
  have ez:z.cps.toList=[]:=u5H (by simpa [u6N] using lz);rw[one (by rw[ez];simp [yc])]
 ·split
  ·rename_i h
   rw[lim,kf] at h;rw[one (List.isEmpty_iff.mp h)]
  ·exact main
theorem z2F (c:Nat):∀(l:List Nat) (k:Nat),(yc c l k=[]->l.takeWhile (· != c)=l)/\∀i r,yc c l k=i::r->k<=i/\l.takeWhile (· != c)=l.take (i-k)
 | [],k=>⟨fun _=>rfl,fun i r h=>nomatch h⟩
 | x::xs,k=>by
  obtain⟨a,b⟩:=z2F c xs (k+1);unfold yc;by_cases e:x=c
  ·rw[if_pos e];refine⟨(fun h=>nomatch h),fun i r h=>?_⟩;injection h with h1 h2;subst h1;rw[Nat.sub_self,List.take_zero,List.takeWhile_cons];simp [e]
  ·rw[if_neg e,List.takeWhile_cons];have ne:(x != c)=true:=by simp [e]
   rw[ne];refine⟨fun h=>?_,fun i r h=>?_⟩
   ·simp only [if_true];rw[a h]
   ·obtain⟨h1,h2⟩:=b i r h;refine⟨by omega,?_⟩;simp only [if_true];rw[h2,show i-k=(i-(k+1))+1 by omega,u6A]
theorem z4h (z:Str) (c:Nat):(u5d z ⟨#[c]⟩).1=tx (z.cps.toList.takeWhile (· != c)):=by
 obtain⟨a,b⟩:=z2F c z.cps.toList 0;unfold u5d;rw[kf];cases e:yc c z.cps.toList 0 with
 | nil=>
  simp only [List.take_nil];rw[a e,yn]
 | cons i r=>
  obtain⟨_,h⟩:=b i r e;rw[u6A];simp only;rw[xA,h];simp
theorem z4G {c:Nat}:∀ {p:List Nat} (n:Nat),c∉p->j5 c p n=[p]
 | [],_,_=>rfl
 | x::xs,n,h=>by
  have ih:=z4G (c:=c) (p:=xs) n fun z=>h (u4Z _ z);rw[z1c];split
  ·rfl
  ·rw[if_neg (fun e=>h (by simp [e])),ih]
theorem z7D {c:Nat} {r:List Nat}:∀ {p:List Nat} (n:Nat),c∉p->j5 c (p++c::r) (n+1)=p::j5 c r n
 | [],n,_=>by
  show j5 c (c::r) (n+1)=_;rw[z1c,if_neg (by omega),if_pos rfl];rfl
 | x::xs,n,h=>by
  have ih:=z7D (c:=c) (p:=xs) (r:=r) n fun z=>h (u4Z _ z);show j5 c (x::(xs++c::r)) (n+1)=_;rw[z1c,if_neg (by omega),if_neg (fun e=>h (by simp [e])),ih]
theorem z7C {c:Nat}:∀(ws:List (List Nat)) (n:Nat),ws≠[]->ws.length<=n+1->(∀p∈ws.dropLast,c∉p)->(ws.length<=n->∀p∈ws,c∉p)->j5 c (glu c ws) n=ws
 | [],_,h,_,_,_=>absurd rfl h
 | [p],0,_,_,_,_=>z4F c p
 | [p],n+1,_,_,_,h=>z4G (n+1) (h (by simp) p (by simp))
 | p::q::r,0,_,h,_,_=>by simp at h
 | p::q::r,n+1,_,h,h1,h2=>by
  show j5 c (p++c::glu c (q::r)) (n+1)=_;rw[z7D n (h1 p (by simp [List.dropLast])),z7C (q::r) n (by simp) (by simp at h ⊢;omega) (fun x hx=>h1 x (by simp [List.dropLast] at hx ⊢;simp [hx])) (fun k x hx=>h2 (by simp at k ⊢;omega) x (by simp at hx ⊢;simp [hx]))]
theorem wD {c:Nat}:∀ {l:List Nat} {n:Nat} {w:List Nat},w∈j5 c l n->w.length<=l.length/\∀x∈w,x∈l
 | [],n,w,h=>by
  have:w=[]:=by simpa [j5] using h
  rw[this];exact⟨u3y _,fun x hx=>hx⟩
 | y::ys,n,w,h=>by
  rw[z1c] at h;split at h
  ·rw[u4O.mp h];exact⟨u3y _,fun x hx=>hx⟩
  ·split at h
   ·rcases u3w.mp h with rfl|h
    ·exact⟨u4q _,fun x hx=>by cases hx⟩
    ·obtain⟨a,b⟩:=wD h;exact⟨by rw[u3x];omega,fun x hx=>u4Z _ (b x hx)⟩
   ·obtain⟨p,t,e⟩:=j9 c ys n;rw[e] at h;have ih:=fun w (hw:w∈p::t)=>wD (c:=c) (l:=ys) (n:=n) (w:=w) (by rw[e];exact hw);rcases u3w.mp h with rfl|h
    ·obtain⟨a,b⟩:=ih p (by simp);refine⟨by rw[u3x,u3x];omega,fun x hx=>?_⟩;rcases u3w.mp hx with rfl|hx
     ·exact u6L
     ·exact u4Z _ (b x hx)
    ·obtain⟨a,b⟩:=ih w (u4Z _ h);exact⟨by rw[u3x];omega,fun x hx=>u4Z _ (b x hx)⟩
end SM
namespace L2
open PySem PySem.Spec PySem.Calls PyProof.Rows PySem.W SM
section
variable {X:Cx}
theorem vF:MtR X "str.partition" (fun x vs H Q=>∃(z y:Str),x=.str z/\vs=[.str y]/\(y.length == 0)=false/\z.length<=u4L/\∀D,H D=none->Q (.ref D) (upd H D (.tup [.str (u5d z y).1,.str (u5d z y).2.1,.str (u5d z y).2.2]))):=by
 intro pins s σ H x vs v us Q I rx rs h;obtain⟨z,y,rfl,rfl,hy,hz,q⟩:=h;obtain⟨t,rfl⟩:=rx;obtain⟨w,rfl,u,rfl⟩:=Vals.one rs;refine call_meets PySem.F.slot_str_partition (u6j _ _ _) PySem.F.entry_str_partition (PySem.F.args_str_partition_2 _ _) (meets_str_partition z y t u hy hz) ?_;have q2:=q _ I.fresh;unfold u5d at q2;cases e:u4s z y 0 z.length 1 with
 | nil=>
  rw[e] at q2;refine⟨.ref _,_,I.laid (o:=.tup [.str z,.str Str.empty,.str Str.empty]) (t':=s.toks+1) (fun b u e=>u3v _ e) (u3y _) ⟨by show 3<=u4L;decide,_,.cons ⟨t,rfl⟩ (.cons ⟨s.toks,rfl⟩ (.cons ⟨s.toks,rfl⟩ .nil)),⟨_,u4C _ rfl,rfl,_,rfl⟩⟩,rfl,q2⟩
 | cons i r=>
  rw[e] at q2;refine⟨.ref _,_,I.laid (o:=.tup [.str (Builtin.Str.strSub z 0 i),.str y,.str (Builtin.Str.strSub z (i+y.length) z.length)]) (t':=s.toks+1+1) (fun b u e=>u3v _ e) (u3y _) ⟨by show 3<=u4L;decide,_,.cons ⟨s.toks,rfl⟩ (.cons ⟨u,rfl⟩ (.cons ⟨s.toks+1,rfl⟩ .nil)),⟨_,u4C _ rfl,rfl,_,rfl⟩⟩,rfl,q2⟩
theorem y0M:MtR X "str.split" (fun x vs H Q=>∃(z y:Str) (n:Nat),x=.str z/\vs=[.str y,.int (n:Int)]/\(y.length == 0)=false/\n<1000/\z.length+10<=u4L/\∀D,H D=none->Q (.ref D) (upd H D (.lst ((Txt.splitMax z y (n:Int)).map V.str)))):=by
 intro pins s σ H x vs v us Q I rx rs h;obtain⟨z,y,n,rfl,rfl,hy,hn,hz,q⟩:=h;obtain⟨t,rfl⟩:=rx;obtain⟨u0,w0,rfl,r1,r2⟩:=Vals.two rs;obtain⟨u,rfl⟩:=r1;obtain⟨k0,rfl⟩:=r2;have hk:(decide ((n:Int) < -(2^63:Int)) || decide ((n:Int) ≥ 2^63))=false:=by
  rw[decide_eq_false (by omega),decide_eq_false (by omega)];rfl
 have ln:(Builtin.Str.partsBetween z (u4s z y 0 z.length (limitOf z n)) y.length).length<=u4L:=by
  have:=PySem.StrLaws.occ_length_le z y 0 z.length (limitOf z n);have lm:limitOf z n=n:=by
   unfold limitOf;rw[if_neg (by omega)];omega
  have e:u4L=16777216:=rfl;simp only [Builtin.Str.partsBetween,u3z,List.length_zip,u3x,u3s,u4G];omega
 have fin:∀(l:List (Str×Tok)) (tk:Nat),l.map (·.1)=Txt.splitMax z y n->EP X pins σ Q (.ref s.heap.objs.size) { s with toks:=tk,heap:=s.heap.push { cls:=.type "list",data:=.seq (strValues l).toArray } }:=fun l tk e=>by
  have e2:(Txt.splitMax z y n).map V.str=l.map fun p=>V.str p.1:=by rw[←e,List.map_map];rfl
  have ll:l.length<=u4L:=by
   have:l.length=(Txt.splitMax z y n).length:=by rw[←e,u3z]
   rw[this];unfold Txt.splitMax;split
   ·show 1<=u4L;decide
   ·split
    ·show 1<=u4L;decide
    ·exact ln
  have q2:=q _ I.fresh;rw[e2] at q2;exact⟨.ref _,_,I.lnew (t':=tk) (z0B l) (by rw[u3z];exact ll),rfl,q2⟩
 cases h1:(decide (z.length<y.length) || decide (u5A z<u5A y)) with
 | true=>
  refine call_meets u5N (u6j _ _ _) u5v (PySem.F.args_str_split_3 _ _ _) (meets_str_split_max_cannot_occur z y n t u k0 hk h1) ?_;exact fin [(z,t)] s.toks (by unfold Txt.splitMax;rw[if_pos h1];rfl)
 | false=>
  cases h2:(u4s z y 0 z.length (limitOf z n)).isEmpty with
  | true=>
   refine call_meets u5N (u6j _ _ _) u5v (PySem.F.args_str_split_3 _ _ _) (meets_str_split_max_not_found z y n t u k0 hk h1 hy h2) ?_;exact fin [(z,t)] s.toks (by unfold Txt.splitMax;rw[if_neg (by rw[h1];decide),if_pos h2];rfl)
  | false=>
   refine call_meets u5N (u6j _ _ _) u5v (PySem.F.args_str_split_3 _ _ _) (meets_str_split_sep_max z y n t u k0 hk h1 hy h2 (by omega) ln) ?_;rw[strsFrom_eq];exact fin _ _ (by rw[numbered_texts];unfold Txt.splitMax;rw[if_neg (by rw[h1];decide),if_neg (by rw[h2];decide)])
noncomputable def y4E (z:Str):Value->Bool
 | .str a _=>a == z
 | _=>false
theorem z8I {z:Str} {t:Tok}:∀ {ys:List Str} {its:List Value},Vals (ys.map V.str) its->its.any (y4E z)=ys.contains z/\∀(A:Around) (s:Shared),∀y∈its,SeqAt.EqAt A s y (.str z t) (y4E z y)
 | [],_,.nil=>⟨rfl,fun _ _ y hy=>nomatch hy⟩
 | y::ys,_,.cons r rs=>by
  obtain⟨t1,rfl⟩:=r;obtain⟨a,b⟩:=z8I (z:=z) (t:=t) rs;refine⟨?_,fun A s v hv=>?_⟩
  ·rw[List.any_cons,List.contains_cons,a];congr 1;show (y == z)=(z == y)
   rw[u6D,beq_iff_eq,beq_iff_eq];exact⟨Eq.symm,Eq.symm⟩
  ·rcases u3w.mp hv with rfl|hv
   ·exact SeqAt.EqAt.str_str y t1 z t
   ·exact b A s v hv
theorem y6A:OpR X (u6Q .In) (fun x y H Q=>∃(z:Str) (a:Addr) (ys:List Str),x=.str z/\y=.ref a/\SqT X.K H a (ys.map V.str)/\Q (.bl (ys.contains z)) H):=by
 intro pins s σ H x y v u Q I rx ry h;obtain⟨z,a,ys,rfl,rfl,hq,q⟩:=h;obtain⟨t,rfl⟩:=rx;cases ry;obtain⟨its,rv,it,_⟩:=I.tuple hq;obtain⟨e1,e2⟩:=z8I (z:=z) (t:=t) rv;refine SeqAt.in_tupleAt (y4E z) it (fun y hy=>e2 _ _ y (by simpa using hy)) ?_;rw[List.any_toArray,e1];exact⟨.bl _,H,I,rfl,q⟩
end
noncomputable def CDT (P:Program) (w:World) (K:u3q) (mg:Str->Option Value) (x:Str) (tb:List (Str×List Str)):Prop:=
 ∃(a:Addr) (o:Obj) (kvs:List (Key×Value)),mg x=some (.ref a)/\K.lookup a=some o/\(a == sysModules)=false/\o.dict=none/\(∀h:Heap,h.get? a=some o->h.DictOf (yS P w) a kvs)/\
  Paired (fun (p:Str×List Str) (q:Key×Value)=>q.1=.inr p.1/\∃b,q.2=.ref b/\∀H,SqT K H b (p.2.map V.str)) tb kvs
theorem y3p {K:u3q} {z:Str}:∀ {tb:List (Str×List Str)} {kvs:List (Key×Value)},Paired (fun (p:Str×List Str) (q:Key×Value)=>q.1=.inr p.1/\∃b,q.2=.ref b/\∀H,SqT K H b (p.2.map V.str)) tb kvs->
  (tb.lookup z=none/\valueAt kvs (.inr z)=none)∨∃ys b,tb.lookup z=some ys/\valueAt kvs (.inr z)=some (.ref b)/\∀H,SqT K H b (ys.map V.str)
 | [],_,.nil=>.inl ⟨rfl,rfl⟩
 | p::tb,q::kvs,.cons r rs=>by
  obtain⟨k,ys⟩:=p;obtain⟨k2,v⟩:=q;obtain⟨e1,b,e2,hb⟩:=r;simp only at e1 e2 hb;subst e1 e2;by_cases c:k=z
  ·subst c;refine .inr ⟨ys,b,by simp [List.lookup],by simp [valueAt],hb⟩
  ·have c1:¬z=k:=fun e=>c e.symm;have e3:((k,ys)::tb).lookup z=tb.lookup z:=by
    rw[u5O,beq_eq_false_iff_ne.mpr c1]
   have e4:valueAt ((Sum.inr k,u4J b)::kvs) (Sum.inr z:Key)=valueAt kvs (.inr z):=by
    have c2:¬(Sum.inr k:Key)=Sum.inr z:=fun e=>c (Sum.inr.inj e);simp [valueAt,List.find?_cons,c]
   rw[e3,e4];exact y3p rs
noncomputable def y5d (K:u3q) (tb:List (Str×List Str)) (ty:TE):TE:=fun σ H Q=>ty σ H fun y H2=>∃z,y=.str z/\(tb.lookup z=none->Q .non H2)/\∀ys b,tb.lookup z=some ys->SqT K H2 b (ys.map V.str)->Q (.ref b) H2
theorem z2a {K:u3q} {tb:List (Str×List Str)} {ty:TE} {σ:St} {H:Hp} {Q:VK}:y5d K tb ty σ H Q=ty σ H fun y H2=>∃z,y=.str z/\(tb.lookup z=none->Q .non H2)/\∀ys b,tb.lookup z=some ys->SqT K H2 b (ys.map V.str)->Q (.ref b) H2:=rfl
theorem y4X {X:Cx} {x:Str} {tb:List (Str×List Str)} {e:Expr} {p apos cpos:Pos} {ty:TE} (hc:CDT X.prog X.w X.K X.mg x tb) (hg:Gl X x) (he:PE X e ty) (m:M1 X (.Name x p) "get" apos e cpos) (hdb:(x == ("__debug__" : Str))=false:=by decide) :
  PE X (.Call (.Attribute (.Name x p) "get" apos) [e] [] cpos) (y5d X.K tb ty):=by
 intro pins s σ H Q I h;obtain⟨a,o,kvs,hm,hk,hs,hd,hh,hp⟩:=hc;have g:=xN (X:=X) (x:=x) (pos:=p) (v:=.ref a) hg hm rfl hdb pins s σ H (fun v H1=>v=.ref a/\H1=H) I (show (tC (.ref a):TE) σ H _ from⟨rfl,rfl⟩);refine wpAny_Call_method m.base m.few m.line PySem.F.plainAttrs_dict PySem.F.slot_dict_get PySem.F.type_dict_get (thn g fun u s1 ⟨x1,H1,I1,rx,e1,e2⟩=>?_);subst e1 e2;obtain rfl:u=u4J a:=rx;have ho:=I1.kIn a o hk;have dd:=hh _ ho;refine⟨dd.typeIs,fun b q=>?_,?_⟩
 ·cases q;exact⟨o,ho,hd⟩
 rw[m.trees];refine Calls.callWith_builtin rfl (Calls.evalArgs_plain (Calls.spliced_cons (thn (he pins s1 σ H1 _ I1 h) fun iv s2 ⟨y,H2,I2,ry,z,ey,q1,q2⟩=>Calls.spliced_nil ?_)));subst ey;have dd2:=hh _ (I2.kIn a o hk);refine call_meetsIn PySem.F.slot_dict_get dd2.typeIs PySem.F.entry_dict_get (PySem.F.args_dict_get_2 _ _) (meets_dict_get (yS X.prog X.w) a (y0W (k:=.inr z) ry) hs) ⟨_,dd2.mapOf,?_⟩;rcases y3p (z:=z) hp with⟨l1,l2⟩|⟨ys,b,l1,l2,hb⟩
 ·have e:(valueAt kvs (Sum.inr z:Key)).getD u6W=.none:=by rw[l2];rfl
  refine⟨.non,H2,I2.tok _,?_,q1 l1⟩;exact e
 ·have e:(valueAt kvs (Sum.inr z:Key)).getD u6W=.ref b:=by rw[l2];rfl
  refine⟨.ref b,H2,I2.tok _,?_,q2 ys b l1 (hb H2)⟩;exact e
inductive CPairs (w:World) (K:u3q):List DictEntry->List (Str×List Str)->Prop
 | nil:CPairs w K [] []
 | cons {e:DictEntry} {es:List DictEntry} {x:Str} {t:Tok} {ys:List Str} {tb:List (Str×List Str)} {b:Addr} {o:Obj} {its:Array Value} {n:Nat}:e.key=.str x t->e.hash=hashStr w x->e.val=.ref b->K.lookup b=some o->o.cls=.type "tuple" ->o.data=.seq its n->its.size<=u4L->Vals (ys.map V.str) its.toList->CPairs w K es tb->CPairs w K (e::es) ((x,ys)::tb)
theorem y1J {P:Program} {w:World} {K:u3q} {es:List DictEntry} {tb:List (Str×List Str)} (h:CPairs w K es tb):∃kvs:List (Key×Value),(∀e∈es,∃k,(yS P w).is k e.key=true/\e.hash=(yS P w).hash k)/\Pairs (yS P w) es kvs/\kvs.map (·.1)=tb.map (fun p=>(Sum.inr p.1:Key))/\
  Paired (fun (p:Str×List Str) (q:Key×Value)=>q.1=.inr p.1/\∃b,q.2=.ref b/\∀H,SqT K H b (p.2.map V.str)) tb kvs:=by
 induction h with
 | nil=>exact⟨[],(fun e he=>nomatch he),.nil,rfl,.nil⟩
 | @cons e es x t ys tb b o its n h1 h2 h3 h4 h5 h6 h7 h8 _ ih=>
  obtain⟨kvs,a1,a2,a3,a4⟩:=ih;have k1:(yS P w).is (Sum.inr x) e.key=true:=by rw[h1];exact z0m P w x t
  refine⟨(Sum.inr x,.ref b)::kvs,fun e' he'=>?_,.cons k1 h3 a2,by simp [a3],.cons ⟨rfl,b,rfl,fun H=>.inr ⟨o,its,n,h4,h5,h6,h7,h8⟩⟩ a4⟩;rcases u3w.mp he' with rfl|he'
  ·exact⟨Sum.inr x,k1,h2⟩
  ·exact a1 e' he'
theorem y6V {P:Program} {w:World} {K:u3q} {h:Heap} {mg:Str->Option Value} {x:Str} {tb:List (Str×List Str)} {a:Addr} {o:Obj} {es:Array DictEntry} {ep:_} (X:K.In h) (G:h.Ns u4z mg) (e:PySem.W.nsIn K u4z x=some (some (.ref a)))
  (l:K.lookup a=some o) (sm:(a == sysModules)=false) (ex:o.ExactDict) (d:o.data=.dict es ep) (cp:CPairs w K es.toList tb) (nd:(tb.map (·.1)).Nodup):CDT P w K mg x tb:=by
 obtain⟨kvs,a1,a2,a3,a4⟩:=y1J (P:=P) cp;refine⟨a,o,kvs,PySem.W.mg_of X G e,l,sm,ex.2.1,fun h ho=>⟨o,es,ep,ho,ex,d,fun e he=>a1 e (by simpa using he),a2,?_⟩,a4⟩;rw[a3];have:tb.map (fun p=>(Sum.inr p.1:Key))=(tb.map (·.1)).map Sum.inr:=by rw[List.map_map];rfl
 rw[this];exact nd.map _ fun _ _ h e=>h (Sum.inr.inj e)
section
variable {X:Cx} {σ:St} {H:Hp} {Q:VK} {D:Ends} {td ty tv:TE} {e:Expr}
theorem y0L:MtR X "str.startswith" (fun x vs H Q=>∃(z y:Str),x=.str z/\vs=[.str y]/\Q (.bl (decide (0+y.length<=z.length) && u5V z y 0)) H):=by
 intro pins s σ H x vs v us Q I rx rs h;obtain⟨z,y,rfl,rfl,q⟩:=h;obtain⟨t,rfl⟩:=rx;obtain⟨u,rfl,r1⟩:=Vals.one rs;obtain⟨t1,rfl⟩:=r1;exact call_gives u6f (u6j _ _ _) PySem.F.entry_str_startswith (PySem.F.args_str_startswith_2 _ _) (gives_str_startswith z y t t1) ⟨.bl _,H,I.tok _,rfl,q⟩
noncomputable def tNo:TE:=fun _ _ _=>False
theorem z9T:tNo σ H Q=False:=rfl
theorem z2Z:y5c td ty σ H Q=td σ H fun x H1=>ty σ H1 fun y H2=>∃a v,x=.ref a/\DGet H2 a y (some v)/\Q v H2:=rfl
theorem z5s:y7h ty td σ H Q=ty σ H fun y H1=>td σ H1 fun x H2=>∃a o,x=.ref a/\DGet H2 a y o/\Q (.bl o.isSome) H2:=rfl
theorem wC:z9W ty td σ H Q=ty σ H fun y H1=>td σ H1 fun x H2=>∃a o,x=.ref a/\DGet H2 a y o/\Q (.bl (!o.isSome)) H2:=rfl
theorem z2t:y5n td ty tv D σ H=tv σ H fun v H1=>td σ H1 fun x H2=>ty σ H2 fun y H3=>∃a H4,x=.ref a/\DPut H3 a y v H4/\D.nx σ H4:=rfl
theorem z0A:y3T σ H Q = ∀p,H p=none->Q (.ref p) (upd H p (.dK [])):=rfl
end
structure Apart2 (Z Ti To j1 j2 m1 m2:Addr):Prop where
 nd:[Z,Ti,To,j1,j2].Nodup
 ls:∀m∈[m1,m2],m∉[Z,To,j1,j2]
noncomputable def Kept2 (Z To j1 j2:Addr) (h h':Heap):Prop:=∀c o,c∉[Z,To,j1,j2]->h.get? c=some o->h'.get? c=some o
theorem Kept2.but {Z To j1 j2 b:Addr} {h h1 h2:Heap} (k:Kept2 Z To j1 j2 h h1) (hb:b∈[Z,To,j1,j2]) (e:u5x b h1 h2):Kept2 Z To j1 j2 h h2:=fun c o hc q=>e.extBut _ _ (fun z=>hc (by rw[z];exact hb)) (k c o hc q)
theorem qo {h h':Heap} {J tu b:Addr} {k:Nat} (x:h.IsTupleIter J tu k) (e:Heap.ExtBut b h h') (n:J≠b):h'.IsTupleIter J tu k:=by
 obtain⟨o,ho,r⟩:=x;exact⟨o,e _ _ n ho,r⟩
section
variable {prog:Program} {w:World} {A:Around} {E:Value->Shared->Prop} {s:Shared}
theorem y2a {Z Ti To j1 j2 m1 m2:Addr} {n:Nat} {us vs:Array Value} {x y a b:Value} {Q:Value->Shared->Prop} (D:Apart2 Z Ti To j1 j2 m1 m2)
  (zz:IsZip s.heap Z Ti To .none) (zI:IsPair s.heap Ti (.ref j1) (.ref j2)) (zO:IsPair s.heap To a b)
  (k1:s.heap.IsTupleIter j1 m1 n) (k2:s.heap.IsListIter j2 m2 n) (e1:s.heap.IsTuple m1 us) (e2:s.heap.IsList m2 vs) (hx:us[n]?=some x) (hy:vs[n]?=some y)
  (hQ:∀h',IsZip h' Z Ti To (rawInt s.heap.objs.size)->IsPair h' To x y->h'.IsTupleIter j1 m1 (n+1)->h'.IsListIter j2 m2 (n+1)->IsPair h' s.heap.objs.size x y->Kept2 Z To j1 j2 s.heap h'->Q (.ref s.heap.objs.size) { s with heap:=h' }) :
  wpAny (model prog w) A (Builtin.«zip.__next__» ⟨[.ref Z],[]⟩) (fun f s'=>∃r,f=.done (.ret r)/\Q r s') E s:=by
 obtain⟨nd,ls⟩:=D;simp only [u6E,u3w,u4B,or_false,not_or,not_false_eq_true,List.nodup_nil,and_true] at nd;obtain⟨⟨d1,d2,d3,d4⟩,⟨d6,d7,d8⟩,⟨d10,d11⟩,d13⟩:=nd;have l1:=ls m1 (by simp);have l2:=ls m2 (by simp);simp only [u3w,u4B,or_false,not_or] at l1 l2;show wpAny _ _ (field (.ref Z) 2 >>= _) _ _ _;refine u3r (u5t zz rfl (x:=.bool false) rfl ?_);show wpAny _ _ (field (.ref Z) 3 >>= _) _ _ _;refine u3r (u5t zz rfl (x:=.ref Ti) rfl (u3r (u5b zI rfl ?_)));show wpAny _ _ (u5o (.ref Z) >>= _) _ _ _;refine u3r (by
  unfold u5o;refine u3r (u5t zz rfl (x:=.none) rfl (u3u ?_));simp only [if_true];refine u3r (wpAny_rule (u3r (u5t zz rfl (x:=.ref To) rfl (u3r (wpAny_setField_rec zz (by simp) fun g1 z1 s1=>?_)))));replace z1:IsZip g1 Z Ti To .ellipsis:=z1;refine u3r ?_;simp only [u6J,List.forIn_nil,List.zipIdx_cons,List.zipIdx_nil];refine u3r (u3r (wpAny_onRaise ?_));show wpAny _ _ (u4y (.ref j1) >>= _) _ _ _;refine u3r (z2B (qo k1 s1.extBut (Ne.symm d3)) (e1.extBut s1.extBut l1.1) hx fun g2 p1 s2=>u3u ?_);have o2:IsPair g2 To a b:=s2.extBut _ _ d10 (s1.extBut _ _ (Ne.symm d2) zO);refine u3r (u5b o2 rfl (u3r (wpAny_updateSeq_pair o2 fun g3 o3 s3=>?_)));replace o3:IsPair g3 To x b:=o3;refine u3r (wpAny_letGo (u3u ?_));refine u3r (u3r (wpAny_onRaise ?_));show wpAny _ _ (u4y (.ref j2) >>= _) _ _ _;refine u3r (wpAny_nextOf_list_item (((k2.extBut s1.extBut (Ne.symm d4)).extBut s2.extBut (Ne.symm d13)).extBut s3.extBut (Ne.symm d11)) (((e2.extBut s1.extBut l2.1).extBut s2.extBut l2.2.2.1).extBut s3.extBut l2.2.1) hy fun g4 p2 s4=>u3u ?_);have o4:IsPair g4 To x b:=s4.extBut _ _ d11 o3;refine u3r (u5b o4 rfl (u3r (wpAny_updateSeq_pair o4 fun g5 o5 s5=>?_)));replace o5:IsPair g5 To x y:=o5;refine u3r (wpAny_letGo (u3u (u3u ?_)));refine u3r (u5b o5 rfl (u3r (wpAny_newTuple ?_)));have sz:g5.objs.size=s.heap.objs.size:=by rw[s5.1,s4.1,s3.1,s2.1,s1.1]
  have z5:IsZip g5 Z Ti To .ellipsis:=s5.extBut _ _ d2 (s4.extBut _ _ d4 (s3.extBut _ _ d2 (s2.extBut _ _ d3 z1)));have K5:Kept2 Z To j1 j2 s.heap g5:=((((Kept2.but (fun c o _ q=>q) (by simp) s1).but (by simp) s2).but (by simp) s3).but (by simp) s4).but (by simp) s5;have q1:g5.IsTupleIter j1 m1 (n+1):=qo (qo (qo p1 s3.extBut (Ne.symm d10)) s4.extBut d13) s5.extBut (Ne.symm d10);have q2:g5.IsListIter j2 m2 (n+1):=p2.extBut s5.extBut (Ne.symm d11);have zlt:Z<g5.objs.size:=u4D z5;show wpAny _ _ (Builtin.SmallTypes.ownedTupleHandOut (.ref Z) (.ref g5.objs.size) >>= _) _ _ _;refine u3r (by
   unfold Builtin.SmallTypes.ownedTupleHandOut;have z8:IsZip (g5.push { cls:=.type "tuple",data:=.seq #[x,y] }) Z Ti To .ellipsis:=u3v _ z5;refine u3r (wpAny_setField_rec z8 (by simp) fun g9 z9 s9=>?_);replace z9:IsZip g9 Z Ti To (rawInt g5.objs.size):=z9;refine wpAny_setField_rec z9 (by simp) fun gA zA sA=>?_;replace zA:IsZip gA Z Ti To (rawInt g5.objs.size):=zA;have up:∀c o,c≠Z->g5.get? c=some o->gA.get? c=some o:=fun c o hc q=>sA.extBut _ _ hc (s9.extBut _ _ hc (u3v _ q));have tA:IsPair gA g5.objs.size x y:=sA.extBut _ _ (Nat.ne_of_gt zlt) (s9.extBut _ _ (Nat.ne_of_gt zlt) (u4C _ rfl));rw[sz] at zA tA;refine u3u ⟨_,rfl,?_⟩;show Q (.ref g5.objs.size) _;rw[sz];refine hQ gA zA (up _ _ (Ne.symm d2) o5) ?_ (q2.at fun o q=>up _ o (Ne.symm d4) q) tA fun c o hc q=>up c o (fun z=>hc (by rw[z];simp)) (K5 c o hc q);obtain⟨oj,hj,rj⟩:=q1;exact⟨oj,up _ oj (Ne.symm d3) hj,rj⟩))
theorem y4x {Z Ti To j1 j2 m1 m2:Addr} {n:Nat} {us vs:Array Value} {a b:Value} {Q:Fin->Shared->Prop} (hh:A.handled=none) (D:Apart2 Z Ti To j1 j2 m1 m2)
  (zz:IsZip s.heap Z Ti To .none) (zI:IsPair s.heap Ti (.ref j1) (.ref j2)) (zO:IsPair s.heap To a b)
  (k1:s.heap.IsTupleIter j1 m1 n) (k2:s.heap.IsListIter j2 m2 n) (e1:s.heap.IsTuple m1 us) (e2:s.heap.IsList m2 vs) (hend:us[n]?=none∨vs[n]?=none)
  (hE:∀h' e,Kept2 Z To j1 j2 s.heap h'->(∃o,h'.get? e=some o/\o.cls=.type "StopIteration")->E (.ref e) { s with heap:=h' }) :
  wpAny (model prog w) A (Builtin.«zip.__next__» ⟨[.ref Z],[]⟩) Q E s:=by
 obtain⟨nd,ls⟩:=D;simp only [u6E,u3w,u4B,or_false,not_or,not_false_eq_true,List.nodup_nil,and_true] at nd;obtain⟨⟨d1,d2,d3,d4⟩,⟨d6,d7,d8⟩,⟨d10,d11⟩,d13⟩:=nd;have l1:=ls m1 (by simp);have l2:=ls m2 (by simp);simp only [u3w,u4B,or_false,not_or] at l1 l2;have fin:∀ {g:Heap} {e:Addr},IsZip g Z Ti To .ellipsis->Kept2 Z To j1 j2 s.heap g->(∃o,g.get? e=some o/\o.cls=.type "StopIteration")->wpAny (model prog w) A (setField (.ref Z) 0 .none) (fun _ s'=>E (.ref e) s') E { s with heap:=g }:=fun {g e} z K he=>by
  obtain⟨o,ho,hc⟩:=he;have ez:e≠Z:=fun q=>by rw[q,z] at ho;cases ho;simp at hc
  exact wpAny_setField_rec z (by simp) fun g' _ s'=>hE g' e (K.but (by simp) s') ⟨o,s'.extBut _ _ ez ho,hc⟩
 show wpAny _ _ (field (.ref Z) 2 >>= _) _ _ _;refine u3r (u5t zz rfl (x:=.bool false) rfl ?_);show wpAny _ _ (field (.ref Z) 3 >>= _) _ _ _;refine u3r (u5t zz rfl (x:=.ref Ti) rfl (u3r (u5b zI rfl ?_)));show wpAny _ _ (u5o (.ref Z) >>= _) _ _ _;refine u3r (by
  unfold u5o;refine u3r (u5t zz rfl (x:=.none) rfl (u3u ?_));simp only [if_true];refine u3r (wpAny_rule (u3r (u5t zz rfl (x:=.ref To) rfl (u3r (wpAny_setField_rec zz (by simp) fun g1 z1 s1=>?_)))));replace z1:IsZip g1 Z Ti To .ellipsis:=z1;have K1:Kept2 Z To j1 j2 s.heap g1:=Kept2.but (fun c o _ q=>q) (by simp) s1;refine u3r ?_;simp only [u6J,List.forIn_nil,List.zipIdx_cons,List.zipIdx_nil];cases hx:us[n]? with
  | none=>
   refine u3r (u3r (wpAny_onRaise ?_));show wpAny _ _ (u4y (.ref j1) >>= _) _ _ _;refine u3r (y0I hh (qo k1 s1.extBut (Ne.symm d3)) (e1.extBut s1.extBut l1.1) hx fun g2 e s2 he=>?_);exact fin (s2 _ _ d3 z1) (fun c o hc q=>s2 _ _ (fun z=>hc (by rw[z];simp)) (K1 c o hc q)) he
  | some x=>
   refine u3r (u3r (wpAny_onRaise ?_));show wpAny _ _ (u4y (.ref j1) >>= _) _ _ _;refine u3r (z2B (qo k1 s1.extBut (Ne.symm d3)) (e1.extBut s1.extBut l1.1) hx fun g2 p1 s2=>u3u ?_);have o2:IsPair g2 To a b:=s2.extBut _ _ d10 (s1.extBut _ _ (Ne.symm d2) zO);refine u3r (u5b o2 rfl (u3r (wpAny_updateSeq_pair o2 fun g3 o3 s3=>?_)));replace o3:IsPair g3 To x b:=o3;refine u3r (wpAny_letGo (u3u ?_));have z3:IsZip g3 Z Ti To .ellipsis:=s3.extBut _ _ d2 (s2.extBut _ _ d3 z1);have K3:=(K1.but (by simp) s2).but (by simp) s3;have hy:vs[n]?=none:=by
    rcases hend with q|q
    ·rw[hx] at q;cases q
    ·exact q
   refine u3r (u3r (wpAny_onRaise ?_));show wpAny _ _ (u4y (.ref j2) >>= _) _ _ _;refine u3r (wpAny_nextOf_list_end hh (((k2.extBut s1.extBut (Ne.symm d4)).extBut s2.extBut (Ne.symm d13)).extBut s3.extBut (Ne.symm d11)) (((e2.extBut s1.extBut l2.1).extBut s2.extBut l2.2.2.1).extBut s3.extBut l2.2.1) hy fun g4 e s4 he=>?_);exact fin (s4 _ _ d4 z3) (fun c o hc q=>s4 _ _ (fun z=>hc (by rw[z];simp)) (K3 c o hc q)) he)
noncomputable abbrev itT (m:Addr):Obj:={ cls:=.type "tuple_iterator",data:=.fields #[.ref m,.int 0 0] }
noncomputable abbrev itL (m:Addr):Obj:={ cls:=.type "list_iterator",data:=.fields #[.ref m,.int 0 0] }
noncomputable abbrev z3x (h:Heap) (m1 m2:Addr):Heap:=((((h.push (itT m1)).push (itL m2)).push { cls:=.type "tuple",data:=.seq #[.ref h.objs.size,.ref (h.push (itT m1)).objs.size] }).push { cls:=.type "tuple",data:=.seq #[.none,.none] }).push
 { cls:=.type "zip",data:=.fields #[.none,.bool false,.bool false,.ref ((h.push (itT m1)).push (itL m2)).objs.size,.ref (((h.push (itT m1)).push (itL m2)).push { cls:=.type "tuple",data:=.seq #[.ref h.objs.size,.ref (h.push (itT m1)).objs.size] }).objs.size] }
theorem z6K (m1 m2:Addr) (us vs:Array Value) :
  Meets (Builtin.«zip.__new__» ⟨[.type "zip",.ref m1,.ref m2],[]⟩) (fun _ R s=>s.heap.IsTuple m1 us/\s.heap.IsList m2 vs/\
   R (.ok (.ret (.ref (s.heap.objs.size+4)))) { s with heap:=z3x s.heap m1 m2 }):=
 .of_wp fun prog w A R s h=>by
  obtain⟨hp,g,d,tk,os⟩:=s;obtain⟨e1,e2,h⟩:=h;have sz:=sub_zip;have L1:Heap.IsTuple (Shared.heap ⟨hp,g,d,tk,os⟩) m1 us:=e1;have L2:Heap.IsList (Shared.heap ⟨hp.push (itT m1),g,d,tk,os⟩) m2 vs:=Heap.IsList.push e2 _
  wp_walk using wpAny_pyIter_tuple L1,wpAny_pyIter_list L2
  refine⟨_,rfl,?_⟩;have e5:hp.objs.size+4=((((hp.push (itT m1)).push (itL m2)).push { cls:=.type "tuple",data:=.seq #[.ref hp.objs.size,.ref (hp.push (itT m1)).objs.size] }).push { cls:=.type "tuple",data:=.seq #[.none,.none] }).objs.size:=by simp only [Heap.size_push]
  rw[e5] at h;exact h
theorem z9D {m1 m2:Addr} {us vs:Array Value} {Q:Value->Shared->Prop} (e1:s.heap.IsTuple m1 us) (e2:s.heap.IsList m2 vs)
  (h:∀h',IsZip h' (s.heap.objs.size+4) (s.heap.objs.size+2) (s.heap.objs.size+3) .none->IsPair h' (s.heap.objs.size+2) (.ref s.heap.objs.size) (.ref (s.heap.objs.size+1))->
   IsPair h' (s.heap.objs.size+3) .none .none->h'.IsTupleIter s.heap.objs.size m1 0->h'.IsListIter (s.heap.objs.size+1) m2 0->
   (∀c o,s.heap.get? c=some o->h'.get? c=some o)->Q (.ref (s.heap.objs.size+4)) { s with heap:=h' }) :
  wpAny (model prog w) A (call (.type "zip") [.ref m1,.ref m2]) Q E s:=by
 refine callType_new F.called_zip (by decide) (F.typeCall_zip_2 _ _) (F.newCall_zip_2 _ _) (fun ob=>F.args_object_init_3 ob _ _) F.entry_zip_new (z6K m1 m2 us vs) ⟨e1,e2,?_⟩;have pk:∀ {h:Heap} {c:Addr} {o:Obj} (u:Obj),h.get? c=some o->(h.push u).get? c=some o:=fun u q=>u3v _ q;have p1:(z3x s.heap m1 m2).get? s.heap.objs.size=some (itT m1):=pk _ (pk _ (pk _ (pk _ (u4C _ rfl))));have p2:(z3x s.heap m1 m2).get? (s.heap.push (itT m1)).objs.size=some (itL m2):=pk _ (pk _ (pk _ (u4C _ rfl)));have p4:(z3x s.heap m1 m2).get? ((s.heap.push (itT m1)).push (itL m2)).objs.size=some _:=pk _ (pk _ (u4C _ rfl));have p5:(z3x s.heap m1 m2).get? (((s.heap.push (itT m1)).push (itL m2)).push { cls:=.type "tuple",data:=.seq #[.ref s.heap.objs.size,.ref (s.heap.push (itT m1)).objs.size] }).objs.size=some _:=pk _ (u4C _ rfl);have p6:(z3x s.heap m1 m2).get? ((((s.heap.push (itT m1)).push (itL m2)).push { cls:=.type "tuple",data:=.seq #[.ref s.heap.objs.size,.ref (s.heap.push (itT m1)).objs.size] }).push { cls:=.type "tuple",data:=.seq #[.none,.none] }).objs.size=some _:=u4C _ rfl;have kp:∀c o,s.heap.get? c=some o->(z3x s.heap m1 m2).get? c=some o:=fun c o q=>pk _ (pk _ (pk _ (pk _ (pk _ q))));generalize z3x s.heap m1 m2=h' at kp p1 p2 p4 p5 p6 ⊢;simp only [Heap.size_push,Nat.add_assoc,Nat.reduceAdd] at p2 p4 p5 p6;show _/\_;exact⟨⟨_,p6,rfl⟩,h _ p6 p4 p5 ⟨_,p1,rfl,rfl⟩ ⟨_,p2,rfl,rfl⟩ kp⟩
end
noncomputable def y7t (K:u3q) (a b:Addr) (n:Nat) (H:Hp):Prop:=∃xs ys,SqT K H a xs/\SqL K H b ys/\min xs.length ys.length=n
noncomputable def y5L (K:u3q) (a b:Addr) (n:Nat):It:=Itp n (y7t K a b n) fun i H u v=>(∀xs,SqT K H a xs->xs[i]?=some u)/\∀ys,SqL K H b ys->ys[i]?=some v
noncomputable def y7e (Z Ti To j1 j2 m1 m2:Addr) (i:Nat) (h:Heap):Prop:=IsZip h Z Ti To .none/\IsPair h Ti (.ref j1) (.ref j2)/\(∃a b,IsPair h To a b)/\h.IsTupleIter j1 m1 i/\h.IsListIter j2 m2 i
theorem z9N {P:Program} {w:World} {K:u3q} {es:List Expr} {k:Nat} {pos:Pos} {Z Ti To j1 j2 m1 m2:Addr} {n:Nat} (D:Apart2 Z Ti To j1 j2 m1 m2) :
  Turn P w K (.Tuple es k pos) (y5L K m1 m2 n) [Z,Ti,To,j1,j2] Z (y7e Z Ti To j1 j2 m1 m2) where
 mem:=by simp
 obj:=fun i h st b hb=>by
  obtain⟨h1,h2,⟨x,y,h3⟩,⟨o4,h4,_,d4⟩,⟨o5,h5,_,d5⟩⟩:=st;simp only [u3w,u4B,or_false] at hb;rcases hb with rfl|rfl|rfl|rfl|rfl
  ·exact⟨_,h1,fun v q=>nomatch q⟩
  ·exact⟨_,h2,fun v q=>nomatch q⟩
  ·exact⟨_,h3,fun v q=>nomatch q⟩
  ·exact⟨_,h4,fun v q=>by rw[d4] at q;cases q⟩
  ·exact⟨_,h5,fun v q=>by rw[d5] at q;cases q⟩
 keep:=fun i h h' st kk=>by
  obtain⟨h1,h2,⟨x,y,h3⟩,⟨o4,h4,r4⟩,h5⟩:=st;exact⟨kk _ (by simp) _ h1,kk _ (by simp) _ h2,⟨x,y,kk _ (by simp) _ h3⟩,⟨o4,kk _ (by simp) o4 h4,r4⟩,h5.at fun o e=>kk _ (by simp) o e⟩
 item:=by
  intro X hP hw hK hc i pins s σ H E I hf st hg;subst hP hw hK;obtain⟨hi,xs,ys,ha,hb,hn⟩:=hg;obtain⟨us,ru,pu,_⟩:=I.tuple ha;obtain⟨vs,rv,pv,_⟩:=I.list hb;have lu:=ru.length;have lv:=rv.length;obtain⟨h1,h2,⟨a,b,h3⟩,h4,h5⟩:=st;have gx:xs[i]?=some (xs[i]'(by omega)):=u4A (by omega);have gy:ys[i]?=some (ys[i]'(by omega)):=u4A (by omega);obtain⟨x,q1,rx⟩:=ru.get gx;obtain⟨y,q2,ry⟩:=rv.get gy;have nn:=D.nd;simp only [u6E,u3w,u4B,or_false,not_or,not_false_eq_true,List.nodup_nil,and_true] at nn;have ty:s.TypeIs (.ref Z) "zip" :=⟨_,h1,rfl⟩
  unfold pyNext;refine u3r (wpAny_attempt (u5J (name:=u3t "__next__") ty F.slot_zip_next (u5S F.slot_zip_next ty F.entry_zip_next ?_ (F.args_zip_next_1 _))));refine y2a D h1 h2 h3 h4 h5 pu pv.isList (x:=x) (y:=y) (by simpa using q1) (by simpa using q2) fun h' a1 a2 a3 a4 a6 kk=>u3u ?_;refine⟨.ref s.heap.objs.size,rfl,wpAny_letOwnedTupleGo_zip a1 fun h2' zz2 sb=>?_⟩;have zlt:Z<s.heap.objs.size:=u4D h1;have nT:H s.heap.objs.size=none:=I.hok.fresh (u3y _);have K2:Kept2 Z To j1 j2 s.heap h2':=kk.but (by simp) sb;have tup2:IsTup h2' s.heap.objs.size #[x,y]:=⟨_,sb.extBut _ _ (Nat.ne_of_gt zlt) a6,rfl,_,rfl⟩
  have fpw:∀b∈[Z,To,j1,j2],b∈[Z,Ti,To,j1,j2]:=fun b hb=>by
   simp only [u3w,u4B,or_false] at hb ⊢;rcases hb with rfl|rfl|rfl|rfl <;> simp
  have I2:Inv X pins σ (upd H s.heap.objs.size (.tup [xs[i]'(by omega),ys[i]'(by omega)])) { s with heap:=h2',toks:=s.toks }:=
   I.turnedLaid (fun b u hb e=>K2 b u hb e) (fun b hb=>hf b (fpw b hb)) (u3y _) ⟨show 2<=u4L by decide,[x,y],.cons rx (.cons ry .nil),tup2⟩
  refine⟨.ref s.heap.objs.size,_,I2,rfl,⟨s.heap.objs.size,_,_,nT,rfl,rfl,fun ws hz=>by rw[I.tuple_inj hz ha];exact gx,fun ws hz=>by rw[I.list_inj hz hb];exact gy⟩,?_,fun b hb=>?_⟩
  ·refine⟨zz2,K2 _ _ ?_ h2,⟨x,y,sb.extBut _ _ (Ne.symm nn.1.2.1) a2⟩,qo a3 sb.extBut (Ne.symm nn.1.2.2.1),a4.extBut sb.extBut (Ne.symm nn.1.2.2.2)⟩;simp only [u3w,u4B,or_false,not_or];exact⟨Ne.symm nn.1.1,nn.2.1.1,nn.2.1.2.1,nn.2.1.2.2⟩
  ·have lt:b<s.heap.objs.size:=by
    obtain⟨o4,h4,_⟩:=h4;obtain⟨o5,h5,_⟩:=h5;simp only [u3w,u4B,or_false] at hb;rcases hb with rfl|rfl|rfl|rfl|rfl
    ·exact u4D h1
    ·exact u4D h2
    ·exact u4D h3
    ·exact u4D h4
    ·exact u4D h5
   rw[zb (u4c lt)];exact (hf b hb).1
 done:=by
  intro X hP hw hK hc i pins s σ H E I hf st hg;subst hP hw hK;obtain⟨hi,xs,ys,ha,hb,hn⟩:=hg;obtain⟨us,ru,pu,_⟩:=I.tuple ha;obtain⟨vs,rv,pv,_⟩:=I.list hb;have lu:=ru.length;have lv:=rv.length;obtain⟨h1,h2,⟨a,b,h3⟩,h4,h5⟩:=st;have fpw:∀b∈[Z,To,j1,j2],b∈[Z,Ti,To,j1,j2]:=fun b hb=>by
   simp only [u3w,u4B,or_false] at hb ⊢;rcases hb with rfl|rfl|rfl|rfl <;> simp
  have hend:us.toArray[i]?=none∨vs.toArray[i]?=none:=by
   by_cases c1:us.length<=i
   ·exact .inl (by simpa using c1)
   ·exact .inr (by
     have:vs.length<=i:=by omega
     simpa using this)
  have ty:s.TypeIs (.ref Z) "zip" :=⟨_,h1,rfl⟩
  unfold pyNext;refine u3r (wpAny_attempt (u5J (name:=u3t "__next__") ty F.slot_zip_next (u5S F.slot_zip_next ty F.entry_zip_next ?_ (F.args_zip_next_1 _))));refine y4x (I.ok.hd hc) D h1 h2 h3 h4 h5 pu pv.isList hend fun h' e kk ⟨o,ho,hcl⟩=>?_;exact u3r (wpAny_isInstance (T:= "StopIteration") (b:=true) ⟨o,ho,hcl⟩ isSubtype_stop (u3u ⟨rfl,I.turnedL (t':=s.toks) (fun b u hb e=>kk b u hb e) fun b hb=>hf b (fpw b hb)⟩))
 self:=fun A i s Q E st h=>wpAny_pyIter_zip st.1 h
noncomputable def y6M (K:u3q) (ta tb:TE):TI:=fun σ H R=>ta σ H fun x H1=>tb σ H1 fun y H2=>∃a b xs ys,x=.ref a/\y=.ref b/\SqT K H2 a xs/\SqL K H2 b ys/\R (y5L K a b (min xs.length ys.length)) H2
theorem y6W {I m1 m2:Nat} (h1:m1<I) (h2:m2<I):Apart2 (I+4) (I+2) (I+3) I (I+1) m1 m2:=by
 refine⟨?_,fun m hm=>?_⟩
 ·simp only [u6E,u3w,u4B,or_false,not_or,not_false_eq_true,List.nodup_nil,and_true];refine⟨⟨?_,?_,?_,?_⟩,⟨?_,?_,?_⟩,⟨?_,?_⟩,?_⟩ <;> (intro (z:(_:Nat)=_);omega)
 ·simp only [u3w,u4B,or_false,not_or] at hm ⊢;rcases hm with rfl|rfl <;> refine⟨?_,?_,?_,?_⟩ <;> (intro (z:(_:Nat)=_);omega)
section
variable {X:Cx} {es:List Expr} {k:Nat} {tpos:Pos}
theorem y4P {l m:Expr} {tl tm:TE} {p pos:Pos} (hg:Gl X "zip") (hm:X.mg "zip" = none) (hl:PE X l tl) (hq:PE X m tm) (hs:u4W [l,m] X.env=[(false,eval l X.env),(false,eval m X.env)]:=by rfl) (hs2:u4W [m] X.env=[(false,eval m X.env)]:=by rfl) :
  PI X (.Tuple es k tpos) (.Call (.Name "zip" p) [l,m] [] pos) (y6M X.K tl tm):=by
 intro pins s σ H R I h;refine Call_ (ki I hg hm PyProof.Rows.boot_zip (u5Z ?_ (by rw[hs,hs2]) (by rw[hs2];rfl)));refine thn ((zB hl (zB hq zE hs2) (by rw[hs,hs2])) pos pins s σ H (fun vs H2=>∃(x y:V),vs=[x,y]/\∃a b xs ys,x=.ref a/\y=.ref b/\SqT X.K H2 a xs/\SqL X.K H2 b ys/\R (y5L X.K a b (min xs.length ys.length)) H2) I ?_) fun us s1 ⟨vs,H1,I1,r,x,y,e,a,b,xs,ys,ea,eb,ha,hb,q⟩=>?_
 ·show tl σ H fun x H1=>tm σ H1 fun y H2=>∃x' y',[x,y]=[x',y']/\_;have e:(fun (x:V) (H1:Hp)=>tm σ H1 fun y H2=>∃x' y',[x,y]=[x',y']/\∃a b xs ys,x'=V.ref a/\y'=.ref b/\SqT X.K H2 a xs/\SqL X.K H2 b ys/\R (y5L X.K a b (min xs.length ys.length)) H2) =
    fun (x:V) (H1:Hp)=>tm σ H1 fun y H2=>∃a b xs ys,x=V.ref a/\y=.ref b/\SqT X.K H2 a xs/\SqL X.K H2 b ys/\R (y5L X.K a b (min xs.length ys.length)) H2:=by
   funext x H1;congr 1;funext y H2;refine propext ⟨fun⟨x',y',e,q⟩=>?_,fun q=>⟨x,y,rfl,q⟩⟩;cases e;exact q
  rw[e];exact h
 subst e ea eb;obtain⟨u,v,rfl,r1,r2⟩:=Vals.two r;cases r1;cases r2;obtain⟨us,ru,pu,_⟩:=I1.tuple ha;obtain⟨vs,rv,pv,_⟩:=I1.list hb;have la:a<s1.heap.objs.size:=by obtain⟨o,e,_⟩:=pu;exact u4D e
 have lb:b<s1.heap.objs.size:=by obtain⟨o,e,_⟩:=pv.isList;exact u4D e
 refine z9D pu pv.isList fun h' hz hTI hTO hi1 hi2 hk=>?_;refine wpAny_pyIter_zip hz ?_;have I2:Inv X pins σ H1 { s1 with heap:=h' }:=I1.kept (t':=s1.toks) hk;refine⟨_,_,_,_,H1,rfl,I2,z9N (y6W la lb),⟨hz,hTI,⟨_,_,hTO⟩,hi1,hi2⟩,fun c hc=>?_,q⟩;have hc':s1.heap.objs.size<=c:=by
  simp only [u3w,u4B,or_false] at hc;rcases hc with rfl|rfl|rfl|rfl|rfl <;> first|exact u3y _|exact Nat.le_add_right _ _
 exact I1.fpOk hc' (I1.hok.fresh hc')
end
theorem z3Q {K:u3q} {ta tb:TE} {σ:St} {H:Hp} {R:It->Hp->Prop}:y6M K ta tb σ H R=ta σ H fun x H1=>tb σ H1 fun y H2=>∃a b xs ys,x=.ref a/\y=.ref b/\SqT K H2 a xs/\SqL K H2 b ys/\R (y5L K a b (min xs.length ys.length)) H2:=rfl
theorem y0w {K:u3q} {a b:Addr} {xs ys:List V} {g:TG} {tb:TS} {D:Ends} {σ:St} {H:Hp} (Pv:Nat->St->Hp->Prop) (h0:Pv 0 σ H) (hl:∀i σ H,Pv i σ H->SqT K H a xs/\SqL K H b ys)
  (hs:∀i u v T σ H,xs[i]?=some u->ys[i]?=some v->H T=none->Pv i σ H->g (.ref T) σ (upd H T (.tup [u,v])) fun σ2 H2=>tb { D with nx:=Pv (i+1),ct:=Pv (i+1),bk:=D.nx } σ2 H2)
  (hd:∀σ H,Pv (min xs.length ys.length) σ H->D.nx σ H):y5M (y5L K a b (min xs.length ys.length)) g tb D σ H:=by
 refine⟨fun i m σ H=>m=min xs.length ys.length-i/\i<=min xs.length ys.length/\Pv i σ H,⟨_,rfl,u4q _,h0⟩,?_⟩;rintro i m σ1 H1 ⟨rfl,hi,p⟩;obtain⟨qa,qb⟩:=hl i σ1 H1 p;by_cases hlt:i<min xs.length ys.length
 ·refine .inr ⟨⟨hlt,xs,ys,qa,qb,rfl⟩,Pv (i+1),fun σ' H' p'=>⟨min xs.length ys.length-(i+1),by omega,rfl,hlt,p'⟩,fun x H' y=>?_⟩;obtain⟨T,u,v,nT,rfl,rfl,f1,f2⟩:=y;exact hs i u v T σ1 H1 (f1 xs qa) (f2 ys qb) nT p
 ·have e:i=min xs.length ys.length:=by omega
  refine .inl ⟨⟨e,xs,ys,qa,qb,rfl⟩,hd σ1 H1 ?_⟩;rw[←e];exact p
section
variable {X:Cx} {k:Nat} {C:Addr} {ps:List Str} {sp:Sp} {m:Str} {pos apos:Pos} {e o:Expr} {es:List Expr} {ta:TE} {t:TA}
theorem y4M {pl:Sem Bool} (hx:X.ex=[]) (he:PE X.nox o ta) (c:Cls X.K C) (h:HasMX X.prog X.w X.K X.mg X.base k C m ps sp) (hr:Room k X.A) (ha:PA X.nox (e::es) t)
  (hst:u4W (e::es) X.env=(false,eval e X.env)::u4W es X.env:=by rfl) (hpl:(backTo pos (u4W es X.env)).any (·.1)=false:=by rfl)
  (ht:eval (.Call (.Attribute o m apos) (e::es) [] pos) X.env=(do
   let ov ←eval o X.env
   standAt apos.atName
   let (f,first) ←holding [ov] (getMethod ov m pl)
   callWith pos f first (backTo pos (u4W (e::es) X.env)) (backToKw pos (keywordEach [] X.env))):=by rfl) :
  PXe X (.Call (.Attribute o m apos) (e::es) [] pos) fun E=>z5r C m sp [] E ta t:=by
 intro pins s σ H Q E I hw;obtain⟨f,fd,F,hb,hm⟩:=h;refine PySem.W.methodCall_KW (pl:=pl) (u5E (he pins s σ H _ (I.wish _) hw) (fun u s1 ⟨x,H1,I1,rx,a,dx,fs,ex,ea,l,q⟩=>?_) fun _ _ z=>z.elim) ht;subst ex;obtain rfl:u=u4J a:=rx;refine w8 I1.unwish ea c hm l ?_;refine PySem.W.callWith_K (first:=[.ref a]) (h₀:=X.base) I.ok.mod.kin hm.kp (u5E (ha pos pins s1 σ H1 _ I1 q) (fun us s2 ⟨vs,H2,I2,r,q2⟩=>⟨I2.kIn,?_⟩) fun _ _ z=>z.elim) hst hpl;have J:=I2.unwish;have q:sp (.ref a::vs) H2 Q E:=by have z:sp (.ref a::(vs++[])) H2 Q E:=q2;rwa [u5l] at z
 have rr:Vals (.ref a::vs) (.ref a::us):=.cons rfl r;have hl:(u4J a::us).length=ps.length:=by rw[←rr.length];exact F.len _ _ _ _ q
 refine wpAny_call (codeAny_mono (F.run X.A X.stack s2 H2 ⟨.ref a::us,[]⟩ (.ref a::us) (.ref a::vs) Q E hr J.env0 (.of_eq (hb _ hl)) rr q) fun r s' hq=>?_);cases r with
 | error e=>exact J.afterXE hx hq
 | ok fl=>
  cases fl with
  | ret u=>exact J.after hq
  | next=>exact u5c hq
  | brk=>exact u5c hq
  | cont=>exact u5c hq
theorem y5y {x:Str} {p:Pos} (h:HasM X.prog X.w X.K X.mg X.base k C "__init__" ps sp) (mk:u6d X.K C=true) (kc:u5L X.K (.ref C)=true) (hr:Room (k+1) X.A) (hg:Gl X x) (hm:X.mg x=some (.ref C)) (hdb:(x == ("__debug__" : Str))=false:=by decide) :
  PE X (.Call (.Name x p) [] [] pos) (z9V C sp [] E0 y1b):=by
 obtain⟨f,fd,F,hb,hM⟩:=h;exact y2S ⟨mk,hM.at_,hM.fn,kc⟩ F hr hg hm (.all hb) .nil y0B hdb
end
theorem ql (val:Nat->Int):∀n,(firstMet val n).Nodup
 | 0=>by rw[firstMet_zero];exact List.nodup_nil
 | n+1=>by
  have ih:=ql val n;rw[firstMet_succ];unfold step_dedup;split
  ·exact ih
  ·rename_i h
   rw[List.nodup_append];refine⟨ih,by simp,fun a ha b hb e=>h ?_⟩;rw[u6P];exact⟨a,ha,by rw[e,u4O.mp hb];exact beq_self_eq_true _⟩
theorem y4f:∀(m:Nat) (l:List Int),l.Nodup->(∀k∈l,0<=k/\k<m)->l.length<=m
 | 0,l,_,h=>by
  cases l with
  | nil=>exact u3y _
  | cons x l=>have:=h x (by simp);omega
 | m+1,l,nd,h=>by
  by_cases c:(m:Int)∈l
  ·have ih:=y4f m (l.erase m) (nd.erase _) fun k hk=>by
    have h1:=(nd.mem_erase_iff).mp hk;have h2:=h k h1.2;have h3:=h1.1;omega
   rw[List.length_erase_of_mem c] at ih;omega
  ·have ih:=y4f m l nd fun k hk=>by
    have h2:=h k hk;have h3:k≠m:=fun e=>c (e▸hk);omega
   omega
theorem y1S {X:Cx} (hc:X.calm=true):CallR X (.type "set") (fun vs H Q=>∃(a:Addr) (ns:List Int),vs=[.ref a]/\SqL X.K H a (ns.map V.int)/\ns.length<=4000/\∀(D:Addr) (f:Int->Bool) (n:Nat),H D=none->(∀m:Nat,(∀k∈ns,0<=k/\k<m)->n<=m)->(∀k,f k=true ↔ k∈ns)->Q (.ref D) (upd H D (y5N X.prog X.w D f n))):=by
 intro pins s σ H vs us Q I r h;obtain⟨a,ns,rfl,hq,hn,q⟩:=h;obtain⟨u,rfl,r1⟩:=Vals.one r;cases r1;obtain⟨its,rv,pl,hz⟩:=I.list hq;have hi:IntsAre its ns:=wX rv;have hl:its.length=ns.length:=hi.length;refine y1R (items:=its.toArray) (ns:=ns) (I.ok.hd hc) pl.isList hi (by rw[u4I,hl];show _<4096;omega) fun h' tk hS keep=>?_;have hsz:its.toArray.size=ns.length:=by rw[u4I,hl]
 rw[hsz] at hS;have mem:∀k,(firstMet (fun i=>ns.getD i 0) ns.length).any (· == k)=true ↔ k∈ns:=fun k=>by
  rw[firstMet_any,u6P];constructor
  ·rintro⟨x,hx,e⟩;obtain⟨i,hi',rfl⟩:=u4l.mp hx;have hlt:=u5j.mp hi';have e2:ns.getD i 0=k:=by simpa using e
   rw[←e2];simp [List.getD,hlt]
  ·intro hk;obtain⟨i,hi',e⟩:=List.mem_iff_getElem.mp hk;exact⟨ns.getD i 0,u4l.mpr ⟨i,u5j.mpr hi',rfl⟩,by simp [List.getD,hi',e]⟩
 refine⟨.ref s.heap.objs.size,upd H s.heap.objs.size (y5N X.prog X.w s.heap.objs.size (fun k'=>(firstMet (fun i=>ns.getD i 0) ns.length).any (· == k')) (firstMet (fun i=>ns.getD i 0) ns.length).length),I.laid (t':=tk) keep (u3y _) ?_,rfl,q _ _ _ I.fresh (fun m hm=>y4f m _ (ql _ _) fun k hk=>hm k ((mem k).mp (u6P.mpr ⟨k,hk,beq_self_eq_true _⟩))) mem⟩;obtain⟨o,es,ep,t,ho,r⟩:=id hS;exact⟨hS,⟨_,ho⟩,fun h1 h2 x k=>x.keep k⟩
theorem z6N {K:Frag} {mg:Str->Option Value} {x:Str} {C:Addr} {bm:List Value} (O:OX K mg x C bm):kitOne K (.type "NoneType") (.ref C)=some false:=by
 obtain⟨N,nm,q,bs,hdct,sn,sub,ab,col,dd,k0,k1,k2,k3,k5,lk,_,_⟩:=O.obj;have h1:(clsIn K C).isSome=true:=by unfold clsIn;rw[lk];rfl
 have h2:typeIn K (.ref C)=some (.type "type"):=by show (K.lookup C).map (·.cls)=_;rw[lk];rfl
 unfold kitOne;rw[if_neg (by simp)];unfold kitCls;simp only [h1,h2,Bool.true_and,beq_self_eq_true,if_true];rfl
theorem j4 {X:Cx} {x:Str} {C:Addr} {bm:List Value} (O:OX X.K X.mg x C bm):CallR X (.builtin "isinstance") (fun xs H Q=>xs=[.non,.ref C]/\Q (.bl false) H):=by
 intro pins s σ H xs us Q I r h;obtain⟨rfl,q⟩:=h;obtain⟨u,c,rfl,r1,r2⟩:=Vals.two r;obtain rfl:c=u4J C:=r2;exact z4y I r1 .non (z6N O) fun tk=>⟨.bl false,H,I.tok tk,rfl,q⟩
end L2
set_option maxHeartbeats 4000000
open PySem L2 SM
local macro_rules | `(tactic| walk_at "wp")=>`(tactic| try simp only [z2N,z2V,z2d,vn,z2P,vP,vS,kM,vZ,vY,y1l,z6q,z6p,z6v,z6s,z7V,y2I,y2H,z2v,z2u,vO,y1n,y3G,z7v,z7w,z2e,z6u,z2S,v7,z2R,vR,z6w,z2T,v3,z2L,z2U,v6,z6x,kL,z2Q,z7u,z2c,z7p,z6t,qN,vQ,z6y,z2b,vN,z3j,vo,z3k,z2W,vi,vh,vf,vg,ve,vj,z2O,vk,z3R,z3T,z3P,vd,vm,ko,z3S,z2X,z3M,vc,vX,z2Y,z2s,qU,vU,vW,jF,vT,vV,v4,z3N,L2.j8,z8A,vq,kx,u4j,List.map_nil,u3x,u4G,List.replicate,u5G,u5a,u5l,List.set_cons_zero,List.set_cons_succ,decide_eq_true_eq,u6B,decide_eq_false_iff_not,Bool.not_eq_eq_eq_not,Bool.not_true,Bool.not_false,u4Q,oV,reduceCtorEq,z7m,z7n,z7l,z7o,Nat.reduceAdd,Nat.reduceSub,Nat.reduceLeDiff,Nat.zero_add,true_and,and_true,forall_const,u5h,if_true,if_false,false_implies,true_implies,not_false_eq_true,not_true_eq_false,implies_true])
seal L2.PSs L2.PS L2.PE L2.PT L2.PA L2.PI L2.PG L2.PTs L2.PW L2.OpR
theorem L2.pA {p:Prop} (h:∀G:Prop,(p->G)->G):p:=h p id
theorem L2.bndC {P:List u5W->Prop} {n:Nat} (h:∀(a:u5W) (us:List u5W),us.length=n->P (a::us)):∀us:List u5W,us.length=n+1->P us
 | a::us,e=>h a us (Nat.succ.inj e)
theorem L2.bnd1 {P:List u5W->Prop} (h:∀a:u5W,P [a]):∀us:List u5W,us.length=1->P us:=bndC fun a us e=>by rw[u5H e];exact h a
theorem L2.bnd2 {P:List u5W->Prop} (h:∀a b:u5W,P [a,b]):∀us:List u5W,us.length=2->P us:=bndC fun a=>bnd1 (P:=fun us=>P (a::us)) (h a)
theorem L2.bnd3 {P:List u5W->Prop} (h:∀a b c:u5W,P [a,b,c]):∀us:List u5W,us.length=3->P us:=bndC fun a=>bnd2 (P:=fun us=>P (a::us)) (h a)
theorem L2.bnd4 {P:List u5W->Prop} (h:∀a b c d:u5W,P [a,b,c,d]):∀us:List u5W,us.length=4->P us:=bndC fun a=>bnd3 (P:=fun us=>P (a::us)) (h a)
theorem L2.bnd5 {P:List u5W->Prop} (h:∀a b c d e:u5W,P [a,b,c,d,e]):∀us:List u5W,us.length=5->P us:=bndC fun a=>bnd4 (P:=fun us=>P (a::us)) (h a)
namespace SMk83
open PySem L2 SM
noncomputable def top (i:Nat):Stmt:=PySem.Challenge.pw_shiftmeet_k83_sure_and_check.main.body.getD i (.Pass ⟨0,0,0,0⟩)
noncomputable abbrev z0Y:Stmt:=top 10
noncomputable abbrev jS:Stmt:=top 11
noncomputable abbrev jv:Stmt:=top 12
noncomputable abbrev qt:Stmt:=top 14
noncomputable abbrev wQ:Stmt:=top 15
noncomputable abbrev kB:Stmt:=top 16
noncomputable abbrev kC:Stmt:=top 18
noncomputable abbrev z0Z:Stmt:=top 19
noncomputable abbrev jy:Stmt:=top 20
noncomputable abbrev z0Q:Stmt:=top 22
noncomputable abbrev kA:Stmt:=top 23
noncomputable abbrev z6D:Stmt:=top 24
noncomputable abbrev z0P:Stmt:=top 26
noncomputable abbrev jp:Stmt:=top 27
noncomputable abbrev wK:Stmt:=top 29
noncomputable abbrev x6:Stmt:=top 30
noncomputable abbrev ju:Stmt:=top 31
noncomputable abbrev z0T:Stmt:=top 34
noncomputable abbrev qq:Stmt:=top 35
noncomputable abbrev xp:Stmt:=top 36
noncomputable abbrev z0U:Stmt:=top 37
noncomputable abbrev jR:Stmt:=top 38
noncomputable abbrev z9l:Stmt:=top 41
noncomputable abbrev jU:Stmt:=top 42
noncomputable abbrev x5:Stmt:=top 43
noncomputable abbrev z6C:Stmt:=top 44
noncomputable abbrev z0R:Stmt:=top 45
noncomputable abbrev xZ:Stmt:=top 47
noncomputable abbrev z2r:Stmt:=top 48
noncomputable abbrev z0S:Stmt:=top 49
noncomputable abbrev xq:Stmt:=top 52
noncomputable abbrev x8:Stmt:=top 53
noncomputable abbrev qu:Stmt:=top 54
noncomputable abbrev jq:Stmt:=top 55
noncomputable abbrev jr:Stmt:=top 56
noncomputable abbrev ji:Stmt:=top 64
noncomputable abbrev xo:Stmt:=top 65
noncomputable abbrev qr:Stmt:=top 66
noncomputable abbrev jP:Stmt:=top 67
noncomputable abbrev jQ:Stmt:=top 68
noncomputable abbrev jx:Stmt:=top 69
noncomputable abbrev jO:Stmt:=top 70
noncomputable abbrev jm:Stmt:=top 71
noncomputable abbrev wJ:Stmt:=top 80
noncomputable abbrev z9m:Stmt:=top 81
noncomputable abbrev z0X:Stmt:=top 82
noncomputable abbrev z0W:Stmt:=top 83
noncomputable abbrev qp:Stmt:=top 84
noncomputable abbrev jM:Stmt:=top 85
noncomputable abbrev jN:Stmt:=top 86
noncomputable abbrev xr:Stmt:=top 88
noncomputable abbrev jT:Stmt:=top 90
noncomputable abbrev z0V:Stmt:=top 91
noncomputable abbrev qv:Stmt:=top 92
noncomputable abbrev wN:Stmt:=top 93
noncomputable abbrev wL:Stmt:=top 94
noncomputable abbrev jw:Stmt:=top 95
noncomputable abbrev wM:Stmt:=top 96
noncomputable abbrev x9:Stmt:=top 97
noncomputable abbrev qw:Stmt:=top 98
noncomputable abbrev qy:Stmt:=top 99
noncomputable abbrev wP:Stmt:=top 100
noncomputable abbrev wO:Stmt:=top 101
noncomputable abbrev y4J:Stmt:=top 102
noncomputable abbrev yW:Stmt:=jZ (top 72) 0
noncomputable abbrev zm:Stmt:=jZ (top 72) 1
noncomputable abbrev zt:Stmt:=jZ (top 72) 2
noncomputable abbrev yL:Stmt:=jZ (top 72) 3
noncomputable abbrev yk:Stmt:=jZ (top 72) 4
noncomputable abbrev ya:Stmt:=jZ (top 72) 5
noncomputable abbrev xa:Stmt:=jZ (top 79) 0
noncomputable abbrev kD:Stmt:=jZ (top 79) 1
noncomputable abbrev xu:Stmt:=jZ (top 79) 2
theorem qT:FnScope ["one", "other", "rest"] ["one", "other"] (zK z0Y):=⟨rfl,rfl,rfl,by decide +kernel,rfl,by decide +kernel,by decide +kernel⟩
theorem xD:FnScope ["numbers", "whole", "number"] ["numbers"] (zK jS):=⟨rfl,rfl,rfl,by decide +kernel,rfl,by decide +kernel,by decide +kernel⟩
theorem xT:FnScope ["number", "small", "part"] ["number"] (zK jv):=⟨rfl,rfl,rfl,by decide +kernel,rfl,by decide +kernel,by decide +kernel⟩
theorem z4S:FnScope ["one", "other"] ["one", "other"] (zK qt):=⟨rfl,rfl,rfl,by decide +kernel,rfl,by decide +kernel,by decide +kernel⟩
theorem z6A:FnScope ["number"] ["number"] (zK wQ):=⟨rfl,rfl,rfl,by decide +kernel,rfl,by decide +kernel,by decide +kernel⟩
theorem z4W:FnScope ["number"] ["number"] (zK kB):=⟨rfl,rfl,rfl,by decide +kernel,rfl,by decide +kernel,by decide +kernel⟩
theorem yD:FnScope ["start", "step", "whole", "many", "low", "levels", "high", "hit", "rest"] ["start", "step", "whole", "many"] (zK kC):=⟨rfl,rfl,rfl,by decide +kernel,rfl,by decide +kernel,by decide +kernel⟩
theorem jB:FnScope ["levels", "hit", "whole", "step", "low"] ["levels", "hit"] (zK z0Z):=⟨rfl,rfl,rfl,by decide +kernel,rfl,by decide +kernel,by decide +kernel⟩
theorem z2q:FnScope ["number", "by"] ["number", "by"] (zK jy):=⟨rfl,rfl,rfl,by decide +kernel,rfl,by decide +kernel,by decide +kernel⟩
theorem qR:FnScope ["rows", "period", "first", "length"] ["rows"] (zK z0Q):=⟨rfl,rfl,rfl,by decide +kernel,rfl,by decide +kernel,by decide +kernel⟩
theorem z4V:FnScope ["period", "first", "length"] ["period", "first", "length"] (zK kA):=⟨rfl,rfl,rfl,by decide +kernel,rfl,by decide +kernel,by decide +kernel⟩
theorem va:FnScope ["plan", "turn", "period", "first", "length"] ["plan", "turn"] (zK z6D):=⟨rfl,rfl,rfl,by decide +kernel,rfl,by decide +kernel,by decide +kernel⟩
theorem z8T:FnScope ["plan", "by"] ["plan", "by"] (zK z0P):=⟨rfl,rfl,rfl,by decide +kernel,rfl,by decide +kernel,by decide +kernel⟩
theorem z2n:FnScope ["plan"] ["plan"] (zK jp):=⟨rfl,rfl,rfl,by decide +kernel,rfl,by decide +kernel,by decide +kernel⟩
theorem z5z:FnScope ["one", "other", "shift", "turn"] ["one", "other", "shift", "turn"] (zK wK):=⟨rfl,rfl,rfl,by decide +kernel,rfl,by decide +kernel,by decide +kernel⟩
theorem yg:FnScope ["one", "other", "shift", "turn", "turns", "waking", "beside"] ["one", "other", "shift", "turn"] (zK x6):=⟨rfl,rfl,rfl,by decide +kernel,rfl,by decide +kernel,by decide +kernel⟩
theorem jK:FnScope ["waking", "beside", "turn", "begin", "rounds"] ["waking", "beside", "turn"] (zK ju):=⟨rfl,rfl,rfl,by decide +kernel,rfl,by decide +kernel,by decide +kernel⟩
theorem qS:FnScope ["waking", "part", "period", "length", "common"] ["waking", "part"] (zK z0T):=⟨rfl,rfl,rfl,by decide +kernel,rfl,by decide +kernel,by decide +kernel⟩
theorem xF:FnScope ["plan", "part", "paper", "by", "number", "below"] ["plan", "part", "paper"] (zK qq):=⟨rfl,rfl,rfl,by decide +kernel,rfl,by decide +kernel,by decide +kernel⟩
theorem z0M:FnScope ["part", "by", "number"] ["part", "by", "number"] (zK xp):=⟨rfl,rfl,rfl,by decide +kernel,rfl,by decide +kernel,by decide +kernel⟩
theorem z8W:FnScope ["plan", "paper"] ["plan", "paper"] (zK z0U):=⟨rfl,rfl,rfl,by decide +kernel,rfl,by decide +kernel,by decide +kernel⟩
theorem xC:FnScope ["paper", "names", "below"] ["paper"] (zK jR):=⟨rfl,rfl,rfl,by decide +kernel,rfl,by decide +kernel,by decide +kernel⟩
theorem z6B:FnScope ["plan", "whole", "turn"] ["plan"] (zK z9l):=⟨rfl,rfl,rfl,by decide +kernel,rfl,by decide +kernel,by decide +kernel⟩
theorem z1R:FnScope ["plan"] ["plan"] (zK jU):=⟨rfl,rfl,rfl,by decide +kernel,rfl,by decide +kernel,by decide +kernel⟩
theorem yG:FnScope ["plan", "part", "near", "k", "met", "by", "papers"] ["plan", "part", "near"] (zK x5):=⟨rfl,rfl,rfl,by decide +kernel,rfl,by decide +kernel,by decide +kernel⟩
theorem y2A:FnScope ["waking", "part"] ["waking", "part"] (zK z6C):=⟨rfl,rfl,rfl,by decide +kernel,rfl,by decide +kernel,by decide +kernel⟩
theorem z8U:FnScope ["waking", "part"] ["waking", "part"] (zK z0R):=⟨rfl,rfl,rfl,by decide +kernel,rfl,by decide +kernel,by decide +kernel⟩
theorem xM:FnScope ["one", "other", "common", "first"] ["one", "other"] (zK xZ):=⟨rfl,rfl,rfl,by decide +kernel,rfl,by decide +kernel,by decide +kernel⟩
theorem z0L:FnScope ["one", "other", "plan", "waking"] ["one", "other"] (zK z2r):=⟨rfl,rfl,rfl,by decide +kernel,rfl,by decide +kernel,by decide +kernel⟩
theorem z8V:FnScope ["one", "other", "k"] ["one", "other", "k"] (zK z0S):=⟨rfl,rfl,rfl,by decide +kernel,rfl,by decide +kernel,by decide +kernel⟩
theorem z0N:FnScope ["one", "other"] ["one", "other"] (zK xq):=⟨rfl,rfl,rfl,by decide +kernel,rfl,by decide +kernel,by decide +kernel⟩
theorem vJ:FnScope ["one", "other"] ["one", "other"] (zK x8):=⟨rfl,rfl,rfl,by decide +kernel,rfl,by decide +kernel,by decide +kernel⟩
theorem z4T:FnScope ["one", "other", "paper"] ["one", "other", "paper"] (zK qu):=⟨rfl,rfl,rfl,by decide +kernel,rfl,by decide +kernel,by decide +kernel⟩
theorem z2o:FnScope ["one", "other", "paper"] ["one", "other", "paper"] (zK jq):=⟨rfl,rfl,rfl,by decide +kernel,rfl,by decide +kernel,by decide +kernel⟩
theorem kW:FnScope ["one", "other", "k", "pair"] ["one", "other", "k"] (zK jr):=⟨rfl,rfl,rfl,by decide +kernel,rfl,by decide +kernel,by decide +kernel⟩
theorem z2m:FnScope ["plan"] ["plan"] (zK ji):=⟨rfl,rfl,rfl,by decide +kernel,rfl,by decide +kernel,by decide +kernel⟩
theorem je:FnScope ["waking", "numbers"] ["waking"] (zK xo):=⟨rfl,rfl,rfl,by decide +kernel,rfl,by decide +kernel,by decide +kernel⟩
theorem wz:FnScope ["text", "words"] ["text"] (zK qr):=⟨rfl,rfl,rfl,by decide +kernel,rfl,by decide +kernel,by decide +kernel⟩
theorem qk:FnScope ["word", "numbers"] ["word"] (zK jP):=⟨rfl,rfl,rfl,by decide +kernel,rfl,by decide +kernel,by decide +kernel⟩
theorem z1P:FnScope ["text"] ["text"] (zK jQ):=⟨rfl,rfl,rfl,by decide +kernel,rfl,by decide +kernel,by decide +kernel⟩
theorem z2p:FnScope ["text", "most"] ["text", "most"] (zK jx):=⟨rfl,rfl,rfl,by decide +kernel,rfl,by decide +kernel,by decide +kernel⟩
theorem xB:FnScope ["paper", "number", "papers"] ["paper"] (zK jO):=⟨rfl,rfl,rfl,by decide +kernel,rfl,by decide +kernel,by decide +kernel⟩
theorem jJ:FnScope ["text", "reader", "paper"] ["text"] (zK jm):=⟨rfl,rfl,rfl,by decide +kernel,rfl,by decide +kernel,by decide +kernel⟩
theorem xY:FnScope ["row", "form", "words", "place", "word"] ["row"] (zK wJ):=⟨rfl,rfl,rfl,by decide +kernel,rfl,by decide +kernel,by decide +kernel⟩
theorem y4I:FnScope ["place", "word"] ["place", "word"] (zK z9m):=⟨rfl,rfl,rfl,by decide +kernel,rfl,by decide +kernel,by decide +kernel⟩
theorem z8Z:FnScope ["word"] ["word"] (zK z0X):=⟨rfl,rfl,rfl,by decide +kernel,rfl,by decide +kernel,by decide +kernel⟩
theorem z8Y:FnScope ["word"] ["word"] (zK z0W):=⟨rfl,rfl,rfl,by decide +kernel,rfl,by decide +kernel,by decide +kernel⟩
theorem z4R:FnScope ["words"] ["words"] (zK qp):=⟨rfl,rfl,rfl,by decide +kernel,rfl,by decide +kernel,by decide +kernel⟩
theorem z1O:FnScope ["turn"] ["turn"] (zK jM):=⟨rfl,rfl,rfl,by decide +kernel,rfl,by decide +kernel,by decide +kernel⟩
theorem ye:FnScope ["one", "other", "paper", "shift", "wait", "text"] ["one", "other"] (zK jN):=⟨rfl,rfl,rfl,by decide +kernel,rfl,by decide +kernel,by decide +kernel⟩
theorem jf:FnScope ["one", "other", "paper", "wait"] ["one", "other", "paper"] (zK xr):=⟨rfl,rfl,rfl,by decide +kernel,rfl,by decide +kernel,by decide +kernel⟩
theorem z1Q:FnScope ["script", "k"] ["script", "k"] (zK jT):=⟨rfl,rfl,rfl,by decide +kernel,rfl,by decide +kernel,by decide +kernel⟩
theorem z8X:FnScope ["cell"] ["cell"] (zK z0V):=⟨rfl,rfl,rfl,by decide +kernel,rfl,by decide +kernel,by decide +kernel⟩
theorem xk:FnScope ["cell", "number", "stem", "place"] ["cell"] (zK qv):=⟨rfl,rfl,rfl,by decide +kernel,rfl,by decide +kernel,by decide +kernel⟩
theorem yi:FnScope ["cell", "number", "plan", "k", "period"] ["cell"] (zK wN):=⟨rfl,rfl,rfl,by decide +kernel,rfl,by decide +kernel,by decide +kernel⟩
theorem yw:FnScope ["desk", "row", "caught", "found", "e"] ["desk", "row"] (zK wL):=⟨rfl,rfl,rfl,by decide +kernel,rfl,by decide +kernel,by decide +kernel⟩
theorem y3:FnScope ["one", "other", "caught", "found", "e"] ["one", "other"] (zK jw):=⟨rfl,rfl,rfl,by decide +kernel,rfl,by decide +kernel,by decide +kernel⟩
theorem yA:FnScope ["desk", "plans", "names", "found", "due", "head", "gap", "text", "caught", "paper", "e", "wait"] ["desk", "plans", "names"] (zK wM):=⟨rfl,rfl,rfl,by decide +kernel,rfl,by decide +kernel,by decide +kernel⟩
theorem j6:FnScope ["paper", "k"] ["paper", "k"] (zK x9):=⟨rfl,rfl,rfl,by decide +kernel,rfl,by decide +kernel,by decide +kernel⟩
theorem xG:FnScope ["desk", "plans", "names", "paper", "one", "other", "due"] ["desk", "plans", "names", "paper"] (zK qw):=⟨rfl,rfl,rfl,by decide +kernel,rfl,by decide +kernel,by decide +kernel⟩
theorem z4U:FnScope ["number", "paper"] ["number", "paper"] (zK qy):=⟨rfl,rfl,rfl,by decide +kernel,rfl,by decide +kernel,by decide +kernel⟩
theorem yZ:FnScope ["desk", "plans", "name", "cell", "number", "row", "primes", "one", "other", "side"] ["desk", "plans", "name", "cell", "number"] (zK wP):=⟨rfl,rfl,rfl,by decide +kernel,rfl,by decide +kernel,by decide +kernel⟩
theorem yj:FnScope ["desk", "plans", "names", "number", "shift", "turn", "found", "due", "row"] ["desk", "plans", "names", "number"] (zK wO):=⟨rfl,rfl,rfl,by decide +kernel,rfl,by decide +kernel,by decide +kernel⟩
theorem xQ:FnScope ["script", "desk", "names", "plans", "k", "paper", "cell", "number", "some", "good", "found"] ["script"] (zK y4J):=⟨rfl,rfl,rfl,by decide +kernel,rfl,by decide +kernel,by decide +kernel⟩
theorem jL:FnScope ["self", "text"] ["self", "text"] (zK yW):=⟨rfl,rfl,rfl,by decide +kernel,rfl,by decide +kernel,by decide +kernel⟩
theorem yK:FnScope ["self", "above", "by"] ["self", "above"] (zK zm):=⟨rfl,rfl,rfl,by decide +kernel,rfl,by decide +kernel,by decide +kernel⟩
theorem y7:FnScope ["self", "above", "papers"] ["self", "above"] (zK zt):=⟨rfl,rfl,rfl,by decide +kernel,rfl,by decide +kernel,by decide +kernel⟩
theorem y8:FnScope ["self", "begin"] ["self"] (zK yL):=⟨rfl,rfl,rfl,by decide +kernel,rfl,by decide +kernel,by decide +kernel⟩
theorem qc:FnScope ["self", "signs"] ["self", "signs"] (zK yk):=⟨rfl,rfl,rfl,by decide +kernel,rfl,by decide +kernel,by decide +kernel⟩
theorem jg:FnScope ["self", "signs"] ["self", "signs"] (zK ya):=⟨rfl,rfl,rfl,by decide +kernel,rfl,by decide +kernel,by decide +kernel⟩
theorem vK:FnScope ["self", "text"] ["self"] (zK xa):=⟨rfl,rfl,rfl,by decide +kernel,rfl,by decide +kernel,by decide +kernel⟩
theorem xH:FnScope ["self", "row", "words", "paper", "one", "other"] ["self", "row"] (zK kD):=⟨rfl,rfl,rfl,by decide +kernel,rfl,by decide +kernel,by decide +kernel⟩
theorem z0O:FnScope ["self", "name"] ["self", "name"] (zK xu):=⟨rfl,rfl,rfl,by decide +kernel,rfl,by decide +kernel,by decide +kernel⟩
section
variable {P:Program} {w:World} {K:u3q} {mg:Str->Option Value} {base:Heap}
noncomputable def xW:Sp:=fun vs H Q _=>∃a b:Int,vs=[.int a,.int b]/\0<=a/\0<=b/\Q (.int (yU a b)) H
theorem y0p (T:TF K mg "divisor" z0Y):Has P w K mg base 1 "divisor" ["one", "other"] xW:=by
 refine T.has qT (fun _ _ _ _ _ _=>L2.bnd2 fun _ _=>rfl) (fun vs H Q E h=>?_) (fun f cdv A outer s H vs Q E hr h=>?_)
 ·refine pA fun Ga hU=>?_;obtain⟨a,b,rfl,_⟩:=h;refine hU ?_;rfl
 refine pA fun Gb hV=>?_;obtain⟨a,b,rfl,ha,hb,q⟩:=h;refine hV ?_;refine⟨_,(zC (kY u4p (zR z4k (pv 1) zG (zV _)) (zC (zQ (i:=2) qT.nd rfl (Or.inl rfl) (zN zi (pv 0) (pv 1))) (zC (zQ (i:=0) qT.nd rfl (Or.inl rfl) (pv 1)) (zF (zQ (i:=1) qT.nd rfl (Or.inl rfl) (pv 2)))))) (zF (zL (pv 0)))),?_⟩;walk_at "wp";obtain⟨W,hW⟩:∃W:Nat->St->Hp->Prop,W=fun m σ H'=>∃(x y:Int) (r:Option V),σ=[some (.int x),some (.int y),r]/\H'=H/\0<=x/\0<=y/\yU x y=yU a b/\m=y.toNat:=⟨_,rfl⟩
 refine⟨W,⟨b.toNat,by rw[hW];exact⟨a,b,none,rfl,rfl,ha,hb,rfl,rfl⟩⟩,fun m σ H' h=>?_⟩;rw[hW] at h;refine pA fun Gc gB=>?_;obtain⟨x,y,r,rfl,rfl,hx,hy,e,rfl⟩:=h;refine gB ?_;walk_at "wp";refine⟨fun c=>?_,fun c=>?_⟩
 ·have m1:=u4g x c;have m2:=u4Y x (show 0<y by omega);refine⟨_,fun _ _ h=>h,?_⟩;walk_at "wp";refine⟨by omega,(x%y).toNat,by omega,?_⟩;rw[hW];exact⟨y,x%y,_,rfl,rfl,hy,m1,by rw[z1E,e],rfl⟩
 ·have c':y=0:=by omega
  subst c';rw[z5O hx] at e;rw[e];exact q
theorem y2L {x:Int} {n k:Nat} (h0:0<=x) (h:x<=(2^n)^k):x.natAbs<2^(n*k+1):=by
 rw[←Int.pow_mul] at h;have e:((2^(n*k):Nat):Int)=2^(n*k):=by rw[Int.natCast_pow];rfl
 rw[←e] at h;rw[Nat.pow_succ];have:0<2^(n*k):=Nat.pow_pos (by decide);omega
noncomputable def xn (K:u3q):Sp:=fun vs H Q _=>∃(L:Addr) (zs:List Int),vs=[.ref L]/\SqL K H L (zs.map V.int)/\zs.length<=200/\(∀z∈zs,1<=z/\z<=2^1000)/\Q (.int (kJ zs)) H
theorem y2m {zs:List Int} {z:Int} (hl:zs.length<=200) (h:∀z∈zs,1<=z/\z<=2^1000) (z0:0<=z) (z1:z<=2^1000):IntMulOk (kJ zs) z:=by
 have p1:=kj (xs:=zs) fun x hx=>(h x hx).1;have p2:=y4g (B:=2^1000) (by decide) h;exact mok (1000*zs.length+1) 1001 (y2L (by omega) p2) (by omega) (by omega)
theorem z3d (T:TF K mg "least_round" jS) (u0U:Has P w K mg base 1 "divisor" ["one", "other"] xW):Has P w K mg base 2 "least_round" ["numbers"] (xn K):=by
 refine T.has xD (fun _ _ _ _ _ _=>L2.bnd1 fun _=>rfl) (fun vs H Q E h=>?_) (fun f cdv A outer s H vs Q E hr h=>?_)
 ·refine pA fun Gd gC=>?_;obtain⟨a,b,rfl,_⟩:=h;refine gC ?_;rfl
 refine pA fun Ge gE=>?_;obtain⟨L,zs,rfl,hS,hl,hz,q⟩:=h;refine gE ?_;refine⟨_,(zC (zQ (i:=1) xD.nd rfl (Or.inl rfl) zG) (zC (xR u4p rfl (yQ (pv 0)) (zd (i:=2) xD.nd rfl (Or.inl rfl)) (zF (zQ (i:=1) xD.nd rfl (Or.inl rfl) (zN xy (pv 1) (zN zk (pv 2) (zS (u0U.mono (by first|decide|omega)) hr (zB (pv 1) (zB (pv 2) zE)))))))) (zF (zL (pv 1))))),?_⟩;walk_at "wp";refine⟨⟨_,hS⟩,?_⟩;obtain⟨W,hW⟩:∃W:Nat->St->Hp->Prop,W=fun i σ H'=>∃o,σ=[some (.ref L),some (.int (kJ (zs.take i))),o]/\H'=H:=⟨_,rfl⟩
 refine yv (xs:=zs.map V.int) W ?_ (fun j σ H2 _ z=>?_) (fun j x σ H2 hx z=>?_) (fun σ H2 z=>?_)
 ·rw[hW];exact⟨_,rfl,rfl⟩
 ·rw[hW] at z;refine pA fun Gf gG=>?_;obtain⟨_,_,rfl⟩:=z;refine gG ?_;exact hS
 ·rw[hW] at z;refine pA fun Gg gH=>?_;obtain⟨o,rfl,rfl⟩:=z;refine gH ?_;rw[u4T] at hx;refine pA fun Gh gI=>?_;obtain⟨x,hy,rfl⟩:=u4e.mp hx;refine gI ?_;have hx1:=hz x (u4F hy);have ht:∀z∈zs.take j,1<=z/\z<=2^1000:=fun z hz'=>hz z (List.mem_of_mem_take hz');have p1:=kj (xs:=zs.take j) fun x hx=>(ht x hx).1;have lt:(zs.take j).length<=200:=by rw[u5F];omega
  have gp:=yh (a:=kJ (zs.take j)) (b:=x) (by omega);have gl:yU (kJ (zs.take j)) x<=x:=by rw[z5P];exact xJ _ (by omega)
  walk_at "wp";refine⟨_,_,rfl,by omega,by omega,?_⟩;walk_at "wp";refine⟨z7x 1001 gp (by omega) (by decide),y2m lt ht (Int.ediv_nonneg (by omega) (by omega)) (Int.le_trans (Int.ediv_le_self _ (by omega)) hx1.2),?_⟩;rw[hW];refine⟨some (.int x),?_,rfl⟩;rw[u4N,hy];show _=[_,some (V.int (kJ (zs.take j++[x]))),_]
  rw[y0S];rfl
 ·rw[hW] at z;refine pA fun Gi gJ=>?_;obtain⟨o,rfl,rfl⟩:=z;refine gJ ?_;rw[u3z,u4b];walk_at "wp";exact q
noncomputable def jH:Sp:=fun vs H Q _=>∃n:Int,vs=[.int n]/\2<=n/\n<2^60/\∀d H',IsPart n d->Same H H'->Q (.int d) H'
theorem y1t {q n:Int} (h0:0<=q) (h:q*q<=n) (hn:n<2^60):q<2^30:=by
 by_cases c:q<2^30
 ·exact c
 ·exfalso;have:=Int.mul_le_mul (show (2:Int)^30<=q by omega) (show (2:Int)^30<=q by omega) (by decide) h0;omega
theorem y6k {q:Int} (h0:1<=q):q<=q*q:=by
 have:=u4E h0 (show 0<=q by omega);omega
theorem z5K (T:TF K mg "least_part" jv):Has P w K mg base 1 "least_part" ["number"] jH:=by
 refine T.has xT (fun _ _ _ _ _ _=>L2.bnd1 fun _=>rfl) (fun vs H Q E h=>?_) (fun f cdv A outer s H vs Q E hr h=>?_)
 ·refine pA fun Gj gK=>?_;obtain⟨a,rfl,_⟩:=h;refine gK ?_;rfl
 refine pA fun Gk gL=>?_;obtain⟨n,rfl,h2,h60,q⟩:=h;refine gL ?_;refine⟨_,(zC (xR u4p rfl (y3b (yF (zB zG (zB zG zE)))) (zd (i:=1) xT.nd rfl (Or.inl rfl)) (zF (zh (zR yX (zN zi (pv 0) (pv 1)) zG (zV _)) (zF (zL (pv 1))) zP))) (zC (zQ (i:=2) xT.nd rfl (Or.inl rfl) zG) (zC (kY u4p (zR z4l (zN xy (pv 2) (pv 2)) (pv 0) (zV _)) (zC (zh (zR yX (zN zi (pv 0) (pv 2)) zG (zV _)) (zF (zL (pv 2))) zP) (zC (zh (zR yX (zN zi (pv 0) (zN xI (pv 2) zG)) zG (zV _)) (zF (zL (zN xI (pv 2) zG))) zP) (zF (y5s (i:=2) xT.nd rfl (Or.inl rfl) zG y6L))))) (zF (zL (pv 0)))))),?_⟩;walk_at "wp";intro p hp;have g:Same H (upd H p (.tup [.int 2,.int 3])):=zJ hp _;refine⟨⟨_,SqT.of zH⟩,?_⟩;obtain⟨W,hW⟩:∃W:Nat->St->Hp->Prop,W=fun i σ H'=>∃o,σ=[some (.int n),o,none]/\H'=upd H p (.tup [.int 2,.int 3])/\(1<=i->n%2≠0)/\(2<=i->n%3≠0):=⟨_,rfl⟩
 refine y3B (xs:=[.int 2,.int 3]) W (by rw[hW];exact⟨none,rfl,rfl,by omega,by omega⟩) (fun i σ H' _ h=>?_) (fun i x σ H' hx h=>?_) (fun σ H' h=>?_)
 ·rw[hW] at h;refine pA fun Gm gM=>?_;obtain⟨_,_,rfl,_⟩:=h;refine gM ?_;exact SqT.of zH
 ·rw[hW] at h;refine pA fun Gn gN=>?_;obtain⟨o,rfl,rfl,k2,k3⟩:=h;refine gN ?_
  match i,hx with
  | 0,hx=>
   cases hx;walk_at "wp";refine⟨by decide,fun c=>q 2 _ ⟨by decide,u6T c,fun d d1 d2=>by omega⟩ g,fun c=>?_⟩;rw[hW];exact⟨_,rfl,rfl,fun _=>c,by omega⟩
  | 1,hx=>
   cases hx;walk_at "wp";refine⟨by decide,fun c=>q 3 _ ⟨by decide,u6T c,fun d d1 d2=>?_⟩ g,fun c=>?_⟩
   ·have:d=2:=by omega
    subst this;exact yH (k2 (by omega))
   ·rw[hW];exact⟨_,rfl,rfl,fun _=>k2 (by omega),fun _=>c⟩
  | i+2,hx=>simp at hx
 ·rw[hW] at h;refine pA fun Go gO=>?_;obtain⟨o,rfl,rfl,k2,k3⟩:=h;refine gO ?_;have k2:=k2 (by decide);have k3:=k3 (by decide);walk_at "wp";obtain⟨Z,hZ⟩:∃Z:Nat->St->Hp->Prop,Z=fun m σ H'=>∃(q:Int),σ=[some (.int n),o,some (.int q)]/\H'=upd H p (.tup [.int 2,.int 3])/\NoPart n q/\q%6=5/\5<=q/\q<2^31/\m=(n+6-q).toNat:=⟨_,rfl⟩
  refine⟨Z,⟨(n+6-5).toNat,by rw[hZ];exact⟨5,rfl,rfl,NoPart.five k2 k3,by decide,by decide,by decide,rfl⟩⟩,fun m σ H' h=>?_⟩;rw[hZ] at h;refine pA fun Gp gP=>?_;obtain⟨t,rfl,rfl,np,t6,t5,t31,rfl⟩:=h;refine gP ?_;walk_at "wp";refine⟨y6q (by omega) (by omega),fun c=>?_,fun c=>?_⟩
  ·have tl:=y1t (by omega) c h60;have tg:=y6k (show 1<=t by omega);refine⟨_,fun _ _ h=>h,?_⟩;walk_at "wp";refine⟨by omega,fun c1=>q t _ ⟨by omega,u6T c1,np⟩ g,fun c1=>⟨by omega,fun c2=>q (t+2) _ ⟨by omega,u6T c2,np.two_on k2 t6 c1⟩ g,fun c2=>?_⟩⟩;refine⟨(n+6-(t+6)).toNat,by omega,?_⟩;rw[hZ];exact⟨t+6,rfl,rfl,np.six k2 k3 t6 c1 c2,by omega,by omega,by omega,rfl⟩
  ·exact q n _ (z0u h2 np (by omega) (by omega)) g
noncomputable def awk (w:T3) (t:Int):Bool:=decide ((t-w.2.1)%w.1<w.2.2)
noncomputable def yf (ws:List T3) (t:Int):Bool:=ws.any fun w=>awk w t
noncomputable def z2j (K:u3q):Sp:=fun vs H Q _=>∃(a:Addr) (t:Int) (xs:List V) (ws:List T3),vs=[.ref a,.int t]/\SqL K H a xs/\Pl H xs ws/\(∀u∈ws,1<=u.1)/\Q (.bl (yf ws t)) H
theorem y3Q {α:Type} {f:α->Bool} {l:List α} {i:Nat} {x:α} (e:l[i]?=some x):(l.take (i+1)).any f=((l.take i).any f || f x):=by
 rw[u4N,e,List.any_append];simp
theorem y3P {α:Type} {f:α->Bool} {l:List α} {i:Nat} {x:α} (e:l[i]?=some x) (h:f x=true):l.any f=true:=u6P.mpr ⟨x,u4F e,h⟩
theorem y0r (T:TF K mg "awake" z6D):Has P w K mg base 1 "awake" ["plan", "turn"] (z2j K):=by
 refine T.has va (fun _ _ _ _ _ _=>L2.bnd2 fun _ _=>rfl) (fun vs H Q E h=>?_) (fun f cdv A outer s H vs Q E hr h=>?_)
 ·refine pA fun Gq gQ=>?_;obtain⟨a,t,xs,ws,rfl,_⟩:=h;refine gQ ?_;rfl
 refine pA fun Gr gR=>?_;obtain⟨a,t,xs,ws,rfl,hS,hP,hw,q⟩:=h;refine gR ?_;refine⟨_,(zC (xR u4p rfl (yQ (pv 0)) (vD rfl (zq (zd (i:=2) va.nd rfl (Or.inl rfl)) (zq (zd (i:=3) va.nd rfl (Or.inl rfl)) (zq (zd (i:=4) va.nd rfl (Or.inl rfl)) jW)))) (zF (zh (zR wV (zN zi (zN xl (pv 1) (pv 3)) (pv 2)) (pv 4) (zV _)) (zF (zL qe)) zP))) (zF (zL qe))),?_⟩;walk_at "wp";refine⟨⟨_,hS⟩,?_⟩;obtain⟨W,hW⟩:∃W:Nat->St->Hp->Prop,W=fun i σ H'=>∃o1 o2 o3:Option V,σ=[some (.ref a),some (.int t),o1,o2,o3]/\H'=H/\(ws.take i).any (fun w=>awk w t)=false:=⟨_,rfl⟩
 refine yv (xs:=xs) W ?_ (fun i σ H' _ z=>?_) (fun i x σ H' hx z=>?_) (fun σ H' z=>?_)
 ·rw[hW];exact⟨none,none,none,rfl,rfl,rfl⟩
 ·rw[hW] at z;refine pA fun Gs gU=>?_;obtain⟨_,_,_,_,rfl,_⟩:=z;refine gU ?_;exact hS
 ·rw[hW] at z;refine pA fun Gu gW=>?_;obtain⟨o1,o2,o3,rfl,rfl,ha⟩:=z;refine gW ?_;refine pA fun Gv gX=>?_;obtain⟨p,u,e1,rfl,e3⟩:=hP.at hx;refine gX ?_;refine⟨p,_,rfl,SqT.of e3,rfl,?_⟩;have u1:=hw u (u4F e1);walk_at "wp";refine⟨by omega,fun c=>?_,fun c=>?_⟩
  ·have e:yf ws t=true:=y3P e1 (decide_eq_true c);rw[e] at q;exact q
  ·rw[hW];exact⟨_,_,_,rfl,rfl,by rw[y3Q e1,ha];exact decide_eq_false c⟩
 ·rw[hW] at z;refine pA fun Gw gZ=>?_;obtain⟨o1,o2,o3,rfl,rfl,ha⟩:=z;refine gZ ?_;rw[hP.1,u4b] at ha;walk_at "wp";have e:yf ws t=false:=ha;rw[e] at q;exact q
noncomputable def kP (K:u3q):Sp:=fun vs H Q _=>∃(a:Addr) (xs:List V) (ws:List T3),vs=[.ref a]/\SqL K H a xs/\Pl H xs ws/\(∀u∈ws,1<=u.1/\u.1<=2^1000)/\ws.length<=200/\∀H',Same H H'->Q (.int (kJ (ws.map (·.1)))) H'
theorem z5G (T:TF K mg "plan_round" jp) (u1C:Has P w K mg base 2 "least_round" ["numbers"] (xn K)):Has P w K mg base 3 "plan_round" ["plan"] (kP K):=by
 refine T.has z2n (fun _ _ _ _ _ _=>L2.bnd1 fun _=>rfl) (fun vs H Q E h=>?_) (fun f cdv A outer s H vs Q E hr h=>?_)
 ·refine pA fun Gx fA=>?_;obtain⟨a,xs,ws,rfl,_⟩:=h;refine fA ?_;rfl
 refine pA fun Gy fB=>?_;obtain⟨a,xs,ws,rfl,hS,hP,hw,hlen,q⟩:=h;refine fB ?_;refine⟨_,(zF (zL (zS (u1C.mono (by first|decide|omega)) hr (zB (yz (CompSc.none (own:=["period", "first", "length"]) (by decide +kernel) (by decide +kernel) rfl (by decide +kernel)) rfl (yQ (pv 0)) (fun _ _ _=>(show PG _ _ (y6y K 3 (z5Q (qf 0) (z5Q (qf 1) (z5Q (qf 2) y6Z)))) from vD (n:=3) rfl (zq (zd (i:=0) (show (["period", "first", "length"]:List Str).Nodup from by decide +kernel) rfl (Or.inl rfl) (Or.inr rfl)) (zq (zd (i:=1) (show (["period", "first", "length"]:List Str).Nodup from by decide +kernel) rfl (Or.inl rfl) (Or.inr rfl)) (zq (zd (i:=2) (show (["period", "first", "length"]:List Str).Nodup from by decide +kernel) rfl (Or.inl rfl) (Or.inr rfl)) jW))))) (fun _ _ _=>yx) (fun _ _ _=>(pv 0))) zE)))),?_⟩;walk_at "wp";refine⟨⟨_,hS⟩,?_⟩;obtain⟨Sv,hSv⟩:∃Sv:St->Prop,Sv=fun σ=>∃o1 o2 o3,σ=[o1,o2,o3]:=⟨_,rfl⟩
 obtain⟨Pv,hPv⟩:∃Pv:Addr->Nat->List V->Hp->Prop,Pv=fun D i ys H2=>H D=none/\Same H H2/\ys=((ws.take i).map (·.1)).map V.int:=⟨_,rfl⟩
 refine yR (xs:=xs) Sv Pv (by rw[hSv];exact⟨none,none,none,rfl⟩) (fun D hD=>?_) (fun D i ys H2 hD h=>?_) (fun D i x ys σ H2 hx hi hs hD hy h=>?_) (fun D ys H2 hD h=>?_)
 ·rw[hPv];exact⟨hD,zJ hD _,rfl⟩
 ·rw[hPv] at h;exact h.2.1.seq hS
 ·rw[hSv] at hs;rw[hPv] at h;refine pA fun Gz fE=>?_;obtain⟨o1,o2,o3,rfl⟩:=hs;refine fE ?_;refine pA fun Ga hU=>?_;obtain⟨nD,g,rfl⟩:=h;refine hU ?_;refine pA fun Gb hV=>?_;obtain⟨p,u,e1,rfl,e3⟩:=hP.at hx;refine hV ?_;rw[hP.1] at hi;refine⟨p,_,rfl,SqT.of (g _ _ e3),rfl,?_⟩;walk_at "wp";refine CompP.mk hD hy (by rw[u4Q];omega) (by rw[hSv];exact⟨_,_,_,rfl⟩) (by
   rw[hPv];refine⟨nD,g.write nD _,?_⟩;rw[u4N,e1];simp)
 ·rw[hPv] at h;refine pA fun Gc gB=>?_;obtain⟨nD,g,rfl⟩:=h;refine gB ?_;rw[hP.1,u4b] at hD;walk_at "wp";refine⟨D,ws.map (·.1),rfl,SqL.of hD,by simpa using hlen,fun z hz=>?_,q _ g⟩;refine pA fun Gd gC=>?_;obtain⟨u,hu,rfl⟩:=u4l.mp hz;refine gC ?_;exact hw u hu
theorem z6g {ws:List T3} {L:Int} (h:∀u∈ws,u.1∣L) (t:Int):yf ws (t+L)=yf ws t:=by
 unfold yf;refine u6D.mpr ?_;rw[u6P,u6P];have e:∀u∈ws,awk u (t+L)=awk u t:=fun u hu=>by
  obtain⟨k,hk⟩:=h u hu;have e1:t+L-u.2.1=(t-u.2.1)+u.1*k:=by omega
  unfold awk;rw[e1,u4h]
 exact⟨fun⟨u,hu,z⟩=>⟨u,hu,by rw[e u hu] at z;exact z⟩,fun⟨u,hu,z⟩=>⟨u,hu,by rw[e u hu];exact z⟩⟩
noncomputable def xP (ws:List T3) (n:Nat):Option Int:=((u6X n).find? fun i:Nat=>!yf ws (i:Int)).map fun i:Nat=>(i:Int)
theorem z8k {ws:List T3} {n i:Nat} (hi:i<n) (h:yf ws (i:Int)=false) (hb:∀j:Nat,j<i->yf ws (j:Int)=true):xP ws n=some (i:Int):=by
 unfold xP;rw[List.find?_range_eq_some.mpr ⟨by simp [h],u5j.mpr hi,fun j hj=>by simp [hb j hj]⟩];rfl
theorem z8l {ws:List T3} {n:Nat} (h:∀i:Nat,i<n->yf ws (i:Int)=true):xP ws n=none:=by
 unfold xP;rw[List.find?_range_eq_none.mpr fun i hi=>by simp [h i hi]];rfl
theorem wY {ws:List T3} {n:Nat}:(∃i:Nat,xP ws n=some (i:Int)/\i<n/\yf ws (i:Int)=false/\∀j:Nat,j<i->yf ws (j:Int)=true)∨(xP ws n=none/\∀i:Nat,i<n->yf ws (i:Int)=true):=by
 cases e:(u6X n).find? fun i:Nat=>!yf ws (i:Int) with
 | none=>
  right;refine⟨by unfold xP;rw[e];rfl,fun i hi=>?_⟩;have:=List.find?_range_eq_none.mp e i hi;simpa using this
 | some i=>
  left;refine pA fun Ge gE=>?_;obtain⟨h1,h2,h3⟩:=List.find?_range_eq_some.mp e;refine gE ?_;refine⟨i,by unfold xP;rw[e];rfl,u5j.mp h2,by simpa using h1,fun j hj=>by simpa using h3 j hj⟩
noncomputable def y6e (s r:Int):HO:=.tup [.int s,.int r]
noncomputable def wG (K:u3q):Sp:=fun vs H Q _=>∃(p p2:Addr) (u:T3) (s r:Int),vs=[.ref p,.ref p2]/\H p=some (wA u)/\SqT K H p2 [.int s,.int r]/\1<=u.1/\1<=s/\Q (.bl (z6L u s r)) H
theorem y0k (T:TF K mg "lies_in" z0T) (u0U:Has P w K mg base 1 "divisor" ["one", "other"] xW):Has P w K mg base 2 "lies_in" ["waking", "part"] (wG K):=by
 refine T.has qS (fun _ _ _ _ _ _=>L2.bnd2 fun _ _=>rfl) (fun vs H Q E h=>?_) (fun f cdv A outer s H vs Q E hr h=>?_)
 ·refine pA fun Gf gG=>?_;obtain⟨p,p2,u,s,r,rfl,_⟩:=h;refine gG ?_;rfl
 refine pA fun Gg gH=>?_;obtain⟨p,p2,u,st,r,rfl,hp,hp2,u1,s1,q⟩:=h;refine gH ?_;refine⟨_,(zC (zQ (i:=2) qS.nd rfl (Or.inl rfl) (zY zg (pv 0) zG (fun _ _=>rfl))) (zC (zQ (i:=3) qS.nd rfl (Or.inl rfl) (zY zg (pv 0) zG (fun _ _=>rfl))) (zC (zQ (i:=4) qS.nd rfl (Or.inl rfl) (zS (u0U.mono (by first|decide|omega)) hr (zB (zY zg (pv 1) zG (fun _ _=>rfl)) (zB (pv 2) zE)))) (zF (zL (yt y4Z (zN zi (zN xl (zN xl (zY zg (pv 1) zG (fun _ _=>rfl)) (zY zg (pv 0) zG (fun _ _=>rfl))) (pv 3)) (pv 4)) (zN xl (pv 2) (pv 3)) (zV _))))))),?_⟩;have hT:SqT K H p [.int u.1,.int u.2.1,.int u.2.2]:=SqT.of hp;have hT2:SqT K H p2 [.int st,.int r]:=hp2;have gp:=yh (a:=st) (b:=u.1) (by omega);walk_at "wp";refine⟨_,_,_,.int u.1,rfl,rfl,hT,rfl,?_⟩;refine⟨_,_,_,.int u.2.2,rfl,rfl,hT,rfl,?_⟩;refine⟨_,_,_,.int st,rfl,rfl,hT2,rfl,?_⟩;walk_at "wp";refine⟨_,_,rfl,by omega,by omega,?_⟩;refine⟨_,_,_,.int r,rfl,rfl,hT2,rfl,?_⟩;refine⟨_,_,_,.int u.2.1,rfl,rfl,hT,rfl,?_⟩;walk_at "wp";refine⟨gp,?_⟩;exact q
theorem z4p (x:Int) {m:Int} (h:0<m):0<=x%m/\x%m<m:=⟨u4g _ (by omega),u4Y _ h⟩
theorem y5E {c d:Int} {n:Nat} (h:u4d c<=n) (hd:u4d d<=n):u4d (c+d)<=n+1:=by
 refine intBits_le_iff.mpr ?_;have h1:=intBits_le_iff.mp h;have h2:=intBits_le_iff.mp hd;have h3:=Int.natAbs_add_le c d;rw[Nat.pow_succ];omega
theorem z8D {ns:List Int} {n k:Nat} (h:∀z∈ns,u4d z<=n):u4d (ns.getD k 0)<=n:=by
 rw[u4M];cases e:ns[k]? with
 | none=>exact u4q _
 | some z=>exact h z (u4F e)
noncomputable def z9b (K:u3q):Sp:=fun vs H Q _=>∃(p p2:Addr) (u v:T3),vs=[.ref p,.ref p2]/\SqT K H p [.int u.1,.int u.2.1,.int u.2.2]/\SqT K H p2 [.int v.1,.int v.2.1,.int v.2.2]/\1<=u.1/\1<=v.1/\∀(t:Addr) (H':Hp),Same H H'->H t=none->H' t=some (wA (sh2 u v))->Q (.ref t) H'
theorem z0z (T:TF K mg "shifts_of_two" xZ) (u1d:mg "min" = none) (u0U:Has P w K mg base 1 "divisor" ["one", "other"] xW):Has P w K mg base 2 "shifts_of_two" ["one", "other"] (z9b K):=by
 refine T.has xM (fun _ _ _ _ _ _=>L2.bnd2 fun _ _=>rfl) (fun vs H Q E h=>?_) (fun f cdv A outer s H vs Q E hr h=>?_)
 ·refine pA fun Gh gI=>?_;obtain⟨p,p2,u,v,rfl,_⟩:=h;refine gI ?_;rfl
 refine pA fun Gi gJ=>?_;obtain⟨p,p2,u,v,rfl,hT,hT2,u1,v1,q⟩:=h;refine gJ ?_;refine⟨_,(zC (zQ (i:=2) xM.nd rfl (Or.inl rfl) (zS (u0U.mono (by first|decide|omega)) hr (zB (zY zg (pv 0) zG (fun _ _=>rfl)) (zB (zY zg (pv 1) zG (fun _ _=>rfl)) zE)))) (zC (zQ (i:=3) xM.nd rfl (Or.inl rfl) (zN zi (zN xl (zN xl (zY zg (pv 0) zG (fun _ _=>rfl)) (zY zg (pv 1) zG (fun _ _=>rfl))) (zN xl (zY zg (pv 1) zG (fun _ _=>rfl)) zG)) (pv 2))) (zF (zL (yF (zB (pv 2) (zB (pv 3) (zB (zf (y1T rfl) rfl u1d (by decide +kernel) (zB (pv 2) (zB (zN xl (zN xI (zY zg (pv 0) zG (fun _ _=>rfl)) (zY zg (pv 1) zG (fun _ _=>rfl))) zG) zE))) zE)))))))),?_⟩;have gp:=yh (a:=u.1) (b:=v.1) (by omega);walk_at "wp";refine⟨_,_,_,.int u.1,rfl,rfl,hT,rfl,?_⟩;refine⟨_,_,_,.int v.1,rfl,rfl,hT2,rfl,?_⟩;refine⟨_,_,rfl,by omega,by omega,?_⟩;refine⟨_,_,_,.int u.2.1,rfl,rfl,hT,rfl,?_⟩;refine⟨_,_,_,.int v.2.1,rfl,rfl,hT2,rfl,?_⟩;walk_at "wp";refine⟨_,_,_,.int v.2.2,rfl,rfl,hT2,rfl,?_⟩;walk_at "wp";refine⟨gp,?_⟩;refine⟨_,_,_,.int u.2.2,rfl,rfl,hT,rfl,?_⟩;refine⟨_,_,_,.int v.2.2,rfl,rfl,hT2,rfl,?_⟩;walk_at "wp";refine⟨_,_,rfl,?_⟩;walk_at "wp";intro t nt;exact q t _ (zJ nt _) nt zH
noncomputable def shs (ws vs:List T3):List T3:=ws.flatMap fun u=>vs.map (sh2 u)
theorem y1w {ws vs:List T3} {i:Nat} {u:T3} (e:ws[i]?=some u):shs (ws.take (i+1)) vs=shs (ws.take i) vs++vs.map (sh2 u):=by
 unfold shs;rw[u4N,e,List.flatMap_append];simp
theorem wH:∀ws vs:List T3,(shs ws vs).length=ws.length*vs.length
 | [],vs=>by simp [shs]
 | u::ws,vs=>by
  have:=wH ws vs;unfold shs at *
  rw[List.flatMap_cons,u3s,this,u3z,u3x,Nat.succ_mul];omega
theorem z0n {ws vs:List T3} {x:T3}:x∈shs ws vs ↔ ∃u∈ws,∃v∈vs,sh2 u v=x:=by
 unfold shs;simp only [List.mem_flatMap,u4l]
theorem y3X {ws vs:List T3} (hw:∀u∈ws,Wk u) (hv:∀v∈vs,Wk v):∀x∈shs ws vs,Wk x:=fun x hx=>by
 refine pA fun Gj gK=>?_;obtain⟨u,hu,v,hv2,rfl⟩:=z0n.mp hx;refine gK ?_;exact y5j (hw u hu) (hv v hv2)
noncomputable def kO (K:u3q):Sp:=fun vs H Q _=>∃(a b:Addr) (xs ys:List V) (ws us:List T3),vs=[.ref a,.ref b]/\SqL K H a xs/\Pl H xs ws/\SqL K H b ys/\Pl H ys us/\(∀u∈ws,1<=u.1)/\(∀u∈us,1<=u.1)/\ws.length<=100/\us.length<=100/\
 ∀(D:Addr) (zs:List V) (H':Hp),Same H H'->H D=none->H' D=some (.lst zs)->Pl H' zs (shs ws us)->Q (.ref D) H'
theorem y3O {K:u3q} {a b:Addr} {p:Addr} {u:T3} {ys:List V} {us:List T3} {nm:Str} {fr:List Nat} {σ:St} {H:Hp} {Q:VK} (hS:SqL K H b ys) (hP:Pl H ys us) (hu:∀v∈us,1<=v.1) (hl:us.length<=100) (hp:H p=some (wA u)) (u1:1<=u.1) (hst:st0 [nm] fr σ=[none,some (.ref p)])
  (hq:∀(D:Addr) (zs:List V) (H':Hp),Same H H'->H D=none->H' D=some (.lst zs)->Pl H' zs (us.map (sh2 u))->Q (.ref D) H') :
  z1M (Itl K b) (qf 0) z9S (z5u (z9b K) [] E0 (z5t (z6r 1) (z5t (z6r 0) y1b))) [nm] fr σ H Q:=by
 obtain⟨Sv,hSv⟩:∃Sv:St->Prop,Sv=fun σ=>∃o,σ=[o,some (.ref p)]:=⟨_,rfl⟩
 obtain⟨Pv,hPv⟩:∃Pv:Addr->Nat->List V->Hp->Prop,Pv=fun D i ys H2=>H D=none/\Same H H2/\Pl H2 ys ((us.take i).map (sh2 u)):=⟨_,rfl⟩
 refine yR (xs:=ys) Sv Pv (by rw[hSv,hst];exact⟨none,rfl⟩) (fun D hD=>?_) (fun D i ys H2 hD h=>?_) (fun D i x ys σ H2 hx hi hs hD hy h=>?_) (fun D ys H2 hD h=>?_)
 ·rw[hPv];exact⟨hD,zJ hD _,.nil⟩
 ·rw[hPv] at h;exact h.2.1.seq hS
 ·rw[hSv] at hs;rw[hPv] at h;obtain⟨o,rfl⟩:=hs;refine pA fun Gk gL=>?_;obtain⟨nD,g,hQ⟩:=h;refine gL ?_;refine pA fun Gm gM=>?_;obtain⟨p2,v,e1,rfl,e3⟩:=hP.at hx;refine gM ?_;have v1:=hu v (u4F e1);rw[hP.1] at hi;walk_at "wp";refine⟨p,p2,u,v,rfl,SqT.of (g _ _ hp),SqT.of (g _ _ e3),u1,v1,fun t H3 g3 nt ht=>?_⟩;have hD3:=g3 _ _ hD;refine CompP.mk hD3 hy (by rw[u4Q];omega) (by rw[hSv];exact⟨_,rfl⟩) (by
   rw[hPv];refine⟨nD,(g.trans g3).write nD _,?_⟩;rw[u4N,e1,List.map_append];exact ((hQ.same g3).snoc ht).upd hD3)
 ·rw[hPv] at h;refine pA fun Gn gN=>?_;obtain⟨nD,g,hQ⟩:=h;refine gN ?_;rw[hP.1,u4b] at hQ;exact hq D ys H2 g nD hD hQ
theorem y2w (T:TF K mg "shifts" z2r) (u1h:Has P w K mg base 2 "shifts_of_two" ["one", "other"] (z9b K)):Has P w K mg base 3 "shifts" ["one", "other"] (kO K):=by
 refine T.has z0L (fun _ _ _ _ _ _=>L2.bnd2 fun _ _=>rfl) (fun vs H Q E h=>?_) (fun f cdv A outer s H vs Q E hr h=>?_)
 ·refine pA fun Go gO=>?_;obtain⟨a,b,xs,ys,ws,us,rfl,_⟩:=h;refine gO ?_;rfl
 refine pA fun Gp gP=>?_;obtain⟨a,b,xs,ys,ws,us,rfl,hS,hP,hS2,hP2,hw,hu,lw,lu,q⟩:=h;refine gP ?_;refine⟨_,(zC (zQ (i:=2) z0L.nd rfl (Or.inl rfl) (yV zE)) (zC (xR u4p rfl (yQ (pv 0)) (zd (i:=3) z0L.nd rfl (Or.inr rfl)) (zF (yy (xx u4v PySem.F.slot_list_extend PySem.F.type_list_extend z4o (pv 2) (zB (yz (CompSc.capt (own:=["beside"]) (capt:=["waking"]) (fr:=[3]) rfl ⟨rfl,rfl,rfl,rfl,rfl,trivial⟩ (by decide +kernel) (by decide +kernel) rfl (by decide +kernel)) rfl (yQ (pv 1)) (fun _ _ _=>(zd (i:=0) (show (["beside", "waking"]:List Str).Nodup from by decide +kernel) rfl (Or.inl rfl) (Or.inr rfl))) (fun _ _ _=>yx) (fun _ _ _=>(zS (u1h.mono (by first|decide|omega)) hr (zB (pv 1) (zB (pv 0) zE))))) zE))))) (zF (zL (pv 2))))),?_⟩;walk_at "wp";intro L hL;have g0:=zJ hL (.lst []);refine⟨⟨_,g0.seq hS⟩,?_⟩;obtain⟨W,hW⟩:∃W:Nat->St->Hp->Prop,W=fun i σ H'=>∃(o:Option V) (zs:List V),σ=[some (.ref a),some (.ref b),some (.ref L),o]/\Same H H'/\H' L=some (.lst zs)/\Pl H' zs (shs (ws.take i) us):=⟨_,rfl⟩
 refine yv (xs:=xs) W ?_ (fun i σ H' _ z=>?_) (fun i x σ H' hx z=>?_) (fun σ H' z=>?_)
 ·rw[hW];exact⟨none,[],rfl,g0,zH,.nil⟩
 ·rw[hW] at z;refine pA fun Gq gQ=>?_;obtain⟨_,_,_,g,_⟩:=z;refine gQ ?_;exact g.seq hS
 ·rw[hW] at z;refine pA fun Gr gR=>?_;obtain⟨o,zs,rfl,g,hL2,hZ⟩:=z;refine gR ?_;refine pA fun Gs gU=>?_;obtain⟨p,u,e1,rfl,e3⟩:=hP.at hx;refine gU ?_;have u1:=hw u (u4F e1);have hi:=(u4K.mp e1).1;walk_at "wp";refine⟨.inl ⟨rfl,_,SqL.of hL2⟩,⟨_,g.seq hS2⟩,?_⟩;refine y3O (a:=a) (g.seq hS2) (hP2.same g) hu lu (g _ _ e3) u1 rfl fun D ds H2 g2 nD hD hQ=>?_;have lz:=hZ.1;have ld:=hQ.1;rw[wH] at lz;rw[u3z] at ld;have lt:(ws.take i).length<=100:=by rw[u5F];omega
  have lm:=Nat.mul_le_mul lt lu;refine⟨L,D,zs,ds,rfl,rfl,g2 _ _ hL2,hD,by rw[u4Q];omega,?_⟩;rw[hW];refine⟨_,_,rfl,(g.trans g2).write hL _,zH,?_⟩;rw[y1w e1];exact ((hZ.same g2).append hQ).upd (g2 _ _ hL2)
 ·rw[hW] at z;refine pA fun Gu gW=>?_;obtain⟨o,zs,rfl,g,hL2,hZ⟩:=z;refine gW ?_;rw[hP.1,u4b] at hZ;walk_at "wp";exact q L zs _ g hL hL2 hZ
noncomputable def wE (K:u3q):Sp:=fun vs H Q _=>∃(p:Addr) (s r b n:Int),vs=[.ref p,.int b,.int n]/\SqT K H p [.int s,.int r]/\0<=b/\b<2^60/\0<=n/\n<2^60/\∀D:Addr,H D=none->Q (.ref D) (upd H D (y6e (s*b) (r+s*n)))
theorem z1V (T:TF K mg "part_of_part" xp):Has P w K mg base 1 "part_of_part" ["part", "by", "number"] (wE K):=by
 refine T.has z0M (fun _ _ _ _ _ _=>L2.bnd3 fun _ _ _=>rfl) (fun vs H Q E h=>?_) (fun f cdv A outer s H vs Q E hr h=>?_)
 ·refine pA fun Gv gX=>?_;obtain⟨p,s,r,b,n,rfl,_⟩:=h;refine gX ?_;rfl
 refine pA fun Gw gZ=>?_;obtain⟨p,st,r,b,n,rfl,hp,b0,b1,n0,n1,q⟩:=h;refine gZ ?_;refine⟨_,(zF (zL (yF (zB (zN xy (zY zg (pv 0) zG (fun _ _=>rfl)) (pv 1)) (zB (zN xI (zY zg (pv 0) zG (fun _ _=>rfl)) (zN xy (zY zg (pv 0) zG (fun _ _=>rfl)) (pv 2))) zE))))),?_⟩;walk_at "wp";refine⟨_,_,_,.int st,rfl,rfl,hp,rfl,?_⟩;walk_at "wp";refine⟨y6q (by omega) (by omega),?_⟩;refine⟨_,_,_,.int r,rfl,rfl,hp,rfl,?_⟩;refine⟨_,_,_,.int st,rfl,rfl,hp,rfl,?_⟩;walk_at "wp";exact⟨y6q (by omega) (by omega),fun D hD=>q D hD⟩
noncomputable def wg (K:u3q) (d:Nat):Sp:=fun vs H Q _=>∃(a pt:Addr) (v:V) (xs:List V) (ws:List T3) (s r:Int) (p:Pap),vs=[.ref a,.ref pt,v]/\SqL K H a xs/\Pl H xs ws/\(∀u∈ws,1<=u.1)/\SqT K H pt [.int s,.int r]/\1<=s/\PapIn K z3w H v p/\p.dep<d/\∀H',Same H H'->Q (.bl (yB ws s r p)) H'
theorem z6Q (T:TF K mg "right_for" qq) (u0D:mg "len" = none) (u1P:mg "enumerate" = none) (u1a:Has P w K mg base 2 "lies_in" ["waking", "part"] (wG K)) (u0s:Has P w K mg base 1 "part_of_part" ["part", "by", "number"] (wE K)) :
  ∀d:Nat,Has P w K mg base (d+3) "right_for" ["plan", "part", "paper"] (wg K d):=by
 intro d
 induction d with
 | zero=>
  refine T.has xF (fun _ _ _ _ _ _=>L2.bnd3 fun _ _ _=>rfl) (fun vs H Q E h=>?_) (fun f cdv A outer s H vs Q E hr h=>?_)
  ·refine pA fun Gx fA=>?_;obtain⟨_,_,_,_,_,_,_,_,_,_,_,_,_,_,_,h,_⟩:=h;refine fA ?_;exact absurd h (u6K _)
  ·refine pA fun Gy fB=>?_;obtain⟨_,_,_,_,_,_,_,_,_,_,_,_,_,_,_,h,_⟩:=h;refine fB ?_;exact absurd h (u6K _)
 | succ d ih=>
 have u1Q:=ih;refine T.has xF (fun _ _ _ _ _ _=>L2.bnd3 fun _ _ _=>rfl) (fun vs H Q E h=>?_) (fun f cdv A outer s H vs Q E hr h=>?_)
 ·refine pA fun Gz fE=>?_;obtain⟨a,pt,v,xs,ws,s,r,p,rfl,_⟩:=h;refine fE ?_;rfl
 refine pA fun Ga hU=>?_;obtain⟨a,pt,v,xs,ws,st,r,p,rfl,hS,hP,hw,hpt,s1,hv,hd,q⟩:=h;refine hU ?_;refine⟨_,(zC (zh (zR yX (zY zg (pv 2) zG (fun _ _=>rfl)) zM (zV _)) (zF (zL (vE (vb z4l wV zG (zY zg (pv 2) zG (fun _ _=>rfl)) (zf zo rfl u0D u4n (zB (pv 0) zE))) (z0e (zS (u1a.mono (by first|decide|omega)) hr (zB (zY za (pv 0) (zY zg (pv 2) zG (fun _ _=>rfl)) (fun _ _=>rfl)) (zB (pv 1) zE))))))) zP) (zC (zQ (i:=3) xF.nd rfl (Or.inl rfl) (zY zg (pv 2) zG (fun _ _=>rfl))) (zC (zh (PW.pt (z0a (zR wV (pv 3) zG (zV _)) (vB (zR z4k (zf zo rfl u0D u4n (zB (zY zg (pv 2) zG (fun _ _=>rfl)) zE)) (pv 3) (zV _))))) (zF (zL qe)) zP) (zC (xR u4p rfl (y4Q rfl u1P (zY zg (pv 2) zG (fun _ _=>rfl))) (vD rfl (zq (zd (i:=4) xF.nd rfl (Or.inl rfl)) (zq (zd (i:=5) xF.nd rfl (Or.inl rfl)) jW))) (zF (zh (xb (yE (zS (u1Q.mono (by first|decide|omega)) hr (zB (pv 0) (zB (zS (u0s.mono (by first|decide|omega)) hr (zB (pv 1) (zB (pv 3) (zB (pv 4) zE)))) (zB (pv 5) zE)))) (fun _=>rfl))) (zF (zL qe)) zP))) (zF (zL qe)))))),?_⟩;cases hv with
 | @inn b k hb=>
  have hT:SqT K H b [.str "in",.int k]:=SqT.of hb;walk_at "wp";refine⟨_,_,_,.str "in",rfl,rfl,hT,rfl,rfl,?_⟩;walk_at "wp";refine⟨_,_,_,.int k,rfl,rfl,hT,rfl,?_⟩;walk_at "wp";have q1:=q H (Same.refl H);unfold yB at q1;refine⟨fun c1=>?_,fun c1=>?_⟩
  ·refine⟨_,_,rfl,.inl hS,?_⟩;rw[hP.1];walk_at "wp";refine⟨fun c2=>?_,fun c2=>?_⟩
   ·refine⟨_,_,_,.int k,rfl,rfl,hT,rfl,?_⟩;refine pA fun Gb hV=>?_;obtain⟨b2,u,e1,e2,e3,e4⟩:=hP.ix c1 c2;refine hV ?_;refine zc hS e1 ⟨b2,pt,u,st,r,rfl,e4,hpt,hw u e3,s1,?_⟩;have eg:ws.getD k.toNat (1,0,1)=u:=by rw[u4M,e2];rfl
    rw[decide_eq_true c1,decide_eq_true c2,eg] at q1;simpa using q1
   ·rw[decide_eq_false c2] at q1;simpa using q1
  ·rw[decide_eq_false c1] at q1;simpa using q1
 | @par b l bb ys ps hb hl _ lz hs=>
  have hT:SqT K H b [.str "parted",.int bb,.ref l]:=SqT.of hb;simp only [Pap.dep] at hd;walk_at "wp";refine⟨_,_,_,.str "parted",rfl,rfl,hT,rfl,rfl,?_⟩;walk_at "wp";refine⟨fun c=>absurd c (by decide),fun _=>?_⟩;refine⟨_,_,_,.int bb,rfl,rfl,hT,rfl,?_⟩;walk_at "wp";have hlen:=hs.len;refine⟨fun c1=>?_,fun c1=>?_⟩
  ·have q1:=q H (Same.refl H);unfold yB at q1;rw[decide_eq_false (show ¬2<=bb by omega),Bool.false_and] at q1;exact q1
  ·refine⟨_,_,_,.ref l,rfl,rfl,hT,rfl,?_⟩;refine⟨_,_,rfl,.inl (SqL.of hl),?_⟩;walk_at "wp";refine⟨fun c2=>?_,fun c2=>?_⟩
   ·have q1:=q H (Same.refl H);unfold yB at q1;rw[decide_eq_true (show 2<=bb by omega),decide_eq_false (show ¬(ps.length:Int)=bb by rw[←hlen];exact c2)] at q1;simpa using q1
   ·have c2':(ys.length:Int)=bb:=by omega
    refine⟨_,_,_,.ref l,rfl,rfl,hT,rfl,?_⟩;walk_at "wp";refine⟨_,_,rfl,SqL.of hl,?_⟩;obtain⟨W,hW⟩:∃W:Nat->St->Hp->Prop,W=fun i σ H'=>∃o1 o2:Option V,σ=[some (.ref a),some (.ref pt),some (.ref b),some (.int bb),o1,o2]/\Same H H'/\yM ws st r bb 0 (ps.take i)=true:=⟨_,rfl⟩
    refine y0x (xs:=ys) W ?_ (fun i σ H' z=>?_) (fun i x T2 σ H' hx nT z=>?_) (fun σ H' z=>?_)
    ·rw[hW];exact⟨none,none,rfl,Same.refl _,by simp [yM]⟩
    ·rw[hW] at z;refine pA fun Gc gB=>?_;obtain⟨_,_,_,g,_⟩:=z;refine gB ?_;exact SqL.of (g _ _ hl)
    ·rw[hW] at z;refine pA fun Gd gC=>?_;obtain⟨o1,o2,rfl,g,hr2⟩:=z;refine gC ?_;refine pA fun Ge gE=>?_;obtain⟨p,e1,hp⟩:=hs.at hx;refine gE ?_;have hi:=(u4K.mp hx).1;have g1:=g.trans (zJ nT (.tup [.int i,x]));refine⟨T2,_,rfl,SqT.of zH,rfl,?_⟩;walk_at "wp";refine⟨pt,st,r,bb,_,rfl,Same.seqT g1 hpt,by omega,by omega,by omega,by omega,fun D hD=>?_⟩;have g2:=g1.trans (zJ hD (y6e (st*bb) (r+st*i)));have sp:1<=st*bb:=by
      have:=Int.mul_le_mul s1 (show 1<=bb by omega) (by decide) (by omega);omega
     refine⟨a,D,x,xs,ws,st*bb,r+st*i,p,rfl,g2.seq hS,hP.same g2,hw,SqT.of zH,sp,hp.mono g2,?_,fun H3 g3=>?_⟩
     ·have:=Pap.dep_mem (u4F e1);omega
     have gg:=g2.trans g3;cases c:yB ws (st*bb) (r+st*i) p with
     | true=>
      walk_at "wp";rw[hW];refine⟨_,_,rfl,gg,?_⟩;rw[jz e1,hr2,Nat.zero_add,c];rfl
     | false=>
      walk_at "wp";have q1:=q H3 gg;unfold yB at q1;rw[kX e1 (by rw[Nat.zero_add];exact c),Bool.and_false,Bool.and_false] at q1;exact q1
    ·rw[hW] at z;refine pA fun Gf gG=>?_;obtain⟨o1,o2,rfl,g,hr2⟩:=z;refine gG ?_;rw[hlen,u4b] at hr2;walk_at "wp";have q1:=q H' g;unfold yB at q1;rw[decide_eq_true (show 2<=bb by omega),decide_eq_true (show (ps.length:Int)=bb by omega),hr2] at q1;exact q1
noncomputable def z9c (K:u3q) (d:Nat):Sp:=fun vs H Q _=>∃(a:Addr) (v:V) (xs:List V) (ws:List T3) (p:Pap),vs=[.ref a,v]/\SqL K H a xs/\Pl H xs ws/\(∀u∈ws,1<=u.1)/\PapIn K z3w H v p/\p.dep<d/\∀H',Same H H'->Q (.bl (yB ws 1 0 p)) H'
theorem y0l {d:Nat} (T:TF K mg "lets_by" z0U) (u0a:CT K mg "ALL_TURNS" [1,0]) (u1Q:Has P w K mg base (d+3) "right_for" ["plan", "part", "paper"] (wg K d)):Has P w K mg base (d+4) "lets_by" ["plan", "paper"] (z9c K d):=by
 refine pA fun Gg gH=>?_;obtain⟨a_ALL_TURNS,e_ALL_TURNS,hAT⟩:=u0a;refine gH ?_;refine T.has z8W (fun _ _ _ _ _ _=>L2.bnd2 fun _ _=>rfl) (fun vs H Q E h=>?_) (fun f cdv A outer s H vs Q E hr h=>?_)
 ·refine pA fun Gh gI=>?_;obtain⟨a,v,xs,ws,p,rfl,_⟩:=h;refine gI ?_;rfl
 refine pA fun Gi gJ=>?_;obtain⟨a,v,xs,ws,p,rfl,hS,hP,hw,hv,hd,q⟩:=h;refine gJ ?_;refine⟨_,(zF (zL (zS (u1Q.mono (by first|decide|omega)) hr (zB (pv 0) (zB (xN (v:=.ref a_ALL_TURNS) rfl e_ALL_TURNS rfl) (zB (pv 1) zE)))))),?_⟩;walk_at "wp";exact⟨a,a_ALL_TURNS,v,xs,ws,1,0,p,rfl,hS,hP,hw,hAT H,by decide,hv,hd,q⟩
noncomputable def yo (K:u3q) (d:Nat):Sp:=fun vs H Q _=>∃(a b:Addr) (v:V) (xs ys:List V) (ws us:List T3) (p:Pap),vs=[.ref a,.ref b,v]/\SqL K H a xs/\Pl H xs ws/\SqL K H b ys/\Pl H ys us/\(∀u∈ws,Wk u)/\(∀u∈us,Wk u)/\ws.length<=100/\us.length<=100/\PapIn K z3w H v p/\p.dep<d/\∀H',Same H H'->Q (.bl (yB (shs ws us) 1 0 p)) H'
theorem z6U {d:Nat} (T:TF K mg "lets_meet" qu) (u1I:Has P w K mg base 3 "shifts" ["one", "other"] (kO K)) (u3U:Has P w K mg base (d+4) "lets_by" ["plan", "paper"] (z9c K d)):Has P w K mg base (d+5) "lets_meet" ["one", "other", "paper"] (yo K d):=by
 refine T.has z4T (fun _ _ _ _ _ _=>L2.bnd3 fun _ _ _=>rfl) (fun vs H Q E h=>?_) (fun f cdv A outer s H vs Q E hr h=>?_)
 ·refine pA fun Gj gK=>?_;obtain⟨a,b,v,xs,ys,ws,us,p,rfl,_⟩:=h;refine gK ?_;rfl
 refine pA fun Gk gL=>?_;obtain⟨a,b,v,xs,ys,ws,us,p,rfl,hS,hP,hS2,hP2,hw,hu,lw,lu,hv,hd,q⟩:=h;refine gL ?_;refine⟨_,(zF (zL (zS (u3U.mono (by first|decide|omega)) hr (zB (zS (u1I.mono (by first|decide|omega)) hr (zB (pv 0) (zB (pv 1) zE))) (zB (pv 2) zE))))),?_⟩;walk_at "wp";refine⟨a,b,xs,ys,ws,us,rfl,hS,hP,hS2,hP2,fun u h=>(hw u h).1,fun u h=>(hu u h).1,lw,lu,fun D zs H1 g1 nD hD hZ=>?_⟩;exact⟨D,v,zs,_,p,rfl,SqL.of hD,hZ,fun u h=>(y3X hw hu u h).1,hv.mono g1,hd,fun H' g'=>q H' (g1.trans g')⟩
noncomputable def z2i (K:u3q) (C:Addr):Sp:=fun vs H Q E=>∃(a:Addr) (xs:List V) (ws:List T3),vs=[.ref a]/\SqL K H a xs/\Pl H xs ws/\(∀u∈ws,1<=u.1/\u.1<=2^1000)/\ws.length<=200/\(5000<kJ (ws.map (·.1))->∀x H',Same H H'->H' x=none->E (.ref C) (some x) H')/\(kJ (ws.map (·.1))<=5000->∀H',Same H H'->Q (oV (xP ws (kJ (ws.map (·.1))).toNat)) H')
theorem y4o {u0A:Addr} {bm:List Value} (T:TF K mg "hole" z9l) (u0O:mg "range" = none) (u0l:CI mg "LONGEST_ROUND" 5000) (u0G:OX K mg "TooMany" u0A bm) (u2S:Has P w K mg base 3 "plan_round" ["plan"] (kP K)) (u1e:Has P w K mg base 1 "awake" ["plan", "turn"] (z2j K)):HasX P w K mg base 4 "hole" ["plan"] (z2i K u0A):=by
 refine T.hasX z6B (fun _ _ _ _ _ _=>L2.bnd1 fun _=>rfl) (fun vs H Q E h=>?_) (fun f cdv A outer s H vs Q E hr h=>?_)
 ·refine pA fun Gm gM=>?_;obtain⟨a,xs,ws,rfl,_⟩:=h;refine gM ?_;rfl
 refine pA fun Gn gN=>?_;obtain⟨a,xs,ws,rfl,hS,hP,hw,hlen,qx,q⟩:=h;refine gN ?_;refine⟨_,(zC (zQ (i:=1) z6B.nd rfl (Or.inl rfl) (zS (u2S.mono (by first|decide|omega)) hr (zB (pv 0) zE))) (zC (zh (zR y2X (pv 1) (z3C rfl u0l) (zV _)) (zF (jV u0G rfl vz (zB zM zE))) zP) (zC (xR y3d rfl (kZ rfl u0O (zB (pv 1) zE)) (zd (i:=2) z6B.nd rfl (Or.inl rfl)) (zF (zh (xb (yE (zS (u1e.mono (by first|decide|omega)) hr (zB (pv 0) (zB (pv 2) zE))) (fun _=>rfl))) (zF (zL (pv 2))) zP))) (zF (zL yI))))),?_⟩;walk_at "wp";refine⟨a,xs,ws,rfl,hS,hP,hw,hlen,fun H1 g1=>?_⟩;have L1:=kj (xs:=ws.map (·.1)) fun z hz=>by
  refine pA fun Go gO=>?_;obtain⟨u,hu,rfl⟩:=u4l.mp hz;refine gO ?_;exact (hw u hu).1
 generalize kJ (ws.map (·.1))=L at L1 qx q;walk_at "wp";refine⟨fun c=>⟨by decide,fun x hx=>qx c x H1 g1 hx⟩,fun c=>⟨_,rfl,by omega,by omega,?_⟩⟩;have q:=q (by omega);obtain⟨W,hW⟩:∃W:Nat->St->Hp->Prop,W=fun i σ H'=>∃o:Option V,σ=[some (.ref a),some (.int L),o]/\H'=H1/\∀j:Nat,j<i->yf ws (j:Int)=true:=⟨_,rfl⟩
 refine wa W ?_ (fun i σ H' hi z=>?_) (fun σ H' z=>?_)
 ·rw[hW];exact⟨none,rfl,rfl,fun j hj=>absurd hj (u6K _)⟩
 ·rw[hW] at z;refine pA fun Gp gP=>?_;obtain⟨o,rfl,rfl,hj⟩:=z;refine gP ?_;have e0:(0:Int)+(i:Int)=i:=by omega
  walk_at "wp";rw[e0];refine⟨_,_,xs,ws,rfl,g1.seq hS,hP.same g1,fun u hu=>(hw u hu).1,?_⟩;cases c:yf ws (i:Int) with
  | true=>
   walk_at "wp";rw[hW];refine⟨_,rfl,rfl,fun j hj2=>?_⟩;rcases Nat.lt_succ_iff_lt_or_eq.mp hj2 with z|z
   ·exact hj j z
   ·rw[z];exact c
  | false=>
   walk_at "wp";have q1:=q H' g1;rw[z8k hi c hj] at q1;exact q1
 ·rw[hW] at z;refine pA fun Gq gQ=>?_;obtain⟨o,rfl,rfl,hj⟩:=z;refine gQ ?_;walk_at "wp";have q1:=q H' g1;rw[z8l hj] at q1;exact q1
noncomputable def z7I (K:u3q):Sp:=fun vs H Q _=>∃(p p2:Addr) (u:T3) (s r:Int),vs=[.ref p,.ref p2]/\H p=some (wA u)/\SqT K H p2 [.int s,.int r]/\1<=u.1/\1<=s/\Q (.bl (z0p u s r)) H
theorem y4n (T:TF K mg "meets" z6C) (u0U:Has P w K mg base 1 "divisor" ["one", "other"] xW):Has P w K mg base 2 "meets" ["waking", "part"] (z7I K):=by
 refine T.has y2A (fun _ _ _ _ _ _=>L2.bnd2 fun _ _=>rfl) (fun vs H Q E h=>?_) (fun f cdv A outer s H vs Q E hr h=>?_)
 ·refine pA fun Gr gR=>?_;obtain⟨p,p2,u,s,r,rfl,_⟩:=h;refine gR ?_;rfl
 refine pA fun Gs gU=>?_;obtain⟨p,p2,u,st,r,rfl,hp,hp2,u1,s1,q⟩:=h;refine gU ?_;refine⟨_,(zF (zL (yt wV (zN zi (zN xl (zY zg (pv 1) zG (fun _ _=>rfl)) (zY zg (pv 0) zG (fun _ _=>rfl))) (zS (u0U.mono (by first|decide|omega)) hr (zB (zY zg (pv 1) zG (fun _ _=>rfl)) (zB (zY zg (pv 0) zG (fun _ _=>rfl)) zE)))) (zY zg (pv 0) zG (fun _ _=>rfl)) (zV _)))),?_⟩;have hT:SqT K H p [.int u.1,.int u.2.1,.int u.2.2]:=SqT.of hp;have gp:=yh (a:=st) (b:=u.1) (by omega);walk_at "wp";refine⟨_,_,_,.int r,rfl,rfl,hp2,rfl,?_⟩;refine⟨_,_,_,.int u.2.1,rfl,rfl,hT,rfl,?_⟩;walk_at "wp";refine⟨_,_,_,.int st,rfl,rfl,hp2,rfl,?_⟩;refine⟨_,_,_,.int u.1,rfl,rfl,hT,rfl,?_⟩;refine⟨_,_,rfl,by omega,by omega,?_⟩;walk_at "wp";refine⟨gp,?_⟩;refine⟨_,_,_,.int u.2.2,rfl,rfl,hT,rfl,?_⟩;walk_at "wp";exact q
noncomputable def z1g (K:u3q):Sp:=fun vs H Q _=>∃(p p2:Addr) (u:T3) (s r:Int),vs=[.ref p,.ref p2]/\H p=some (wA u)/\SqT K H p2 [.int s,.int r]/\1<=u.1/\u.1<=5000/\1<=s/\2<=u.1/yU s u.1/\∀d H',IsPart (u.1/yU s u.1) d->Same H H'->Q (.int d) H'
theorem y0i (T:TF K mg "parting" z0R) (u0U:Has P w K mg base 1 "divisor" ["one", "other"] xW) (u1J:Has P w K mg base 1 "least_part" ["number"] jH):Has P w K mg base 2 "parting" ["waking", "part"] (z1g K):=by
 refine T.has z8U (fun _ _ _ _ _ _=>L2.bnd2 fun _ _=>rfl) (fun vs H Q E h=>?_) (fun f cdv A outer s H vs Q E hr h=>?_)
 ·refine pA fun Gu gW=>?_;obtain⟨p,p2,u,s,r,rfl,_⟩:=h;refine gW ?_;rfl
 refine pA fun Gv gX=>?_;obtain⟨p,p2,u,st,r,rfl,hp,hp2,u1,u2,s1,n2,q⟩:=h;refine gX ?_;refine⟨_,(zF (zL (zS (u1J.mono (by first|decide|omega)) hr (zB (zN zk (zY zg (pv 0) zG (fun _ _=>rfl)) (zS (u0U.mono (by first|decide|omega)) hr (zB (zY zg (pv 1) zG (fun _ _=>rfl)) (zB (zY zg (pv 0) zG (fun _ _=>rfl)) zE)))) zE)))),?_⟩;have hT:SqT K H p [.int u.1,.int u.2.1,.int u.2.2]:=SqT.of hp;have gp:=yh (a:=st) (b:=u.1) (by omega);have gr:yU st u.1<=u.1:=by rw[z5P];exact xJ _ (by omega)
 have dl:u.1/yU st u.1<=u.1:=Int.ediv_le_self _ (by omega);walk_at "wp";refine⟨_,_,_,.int u.1,rfl,rfl,hT,rfl,?_⟩;refine⟨_,_,_,.int st,rfl,rfl,hp2,rfl,?_⟩;refine⟨_,_,_,.int u.1,rfl,rfl,hT,rfl,?_⟩;refine⟨_,_,rfl,by omega,by omega,?_⟩;walk_at "wp";refine⟨z7x 20 (by omega) (by omega) (by decide),?_⟩;exact⟨_,rfl,n2,by omega,q⟩
theorem y5D {K:u3q} {n:Addr} {cs:List Int} {tt:TT} {own:List Str} {fr:List Nat} {σ:St} {H:Hp} {Q:VK} {rest:St} (f:Int->Bool) (hst:st0 own fr σ=none::rest) (hS:SqL K H n (cs.map V.int)) (hl:cs.length<=1000)
  (htt:∀(c:Int) (H2:Hp) (R:Bool->Hp->Prop),c∈cs->Same H H2->R (f c) H2->tt (some (.int c)::rest) H2 R)
  (hq:∀(D:Addr) (H':Hp),Same H H'->H D=none->H' D=some (IL (cs.filter f))->Q (.ref D) H') :
  z1M (Itl K n) (qf 0) tt (z6r 0) own fr σ H Q:=by
 obtain⟨Sv,hSv⟩:∃Sv:St->Prop,Sv=fun σ=>∃o1,σ=o1::rest:=⟨_,rfl⟩
 obtain⟨Pv,hPv⟩:∃Pv:Addr->Nat->List V->Hp->Prop,Pv=fun D i ys H2=>H D=none/\Same H H2/\ys=((cs.take i).filter f).map V.int:=⟨_,rfl⟩
 refine yR (xs:=cs.map V.int) Sv Pv (by rw[hSv,hst];exact⟨none,rfl⟩) (fun D hD=>?_) (fun D i ys H2 hD h=>?_) (fun D i x ys σ H2 hx hi hs hD hy h=>?_) (fun D ys H2 hD h=>?_)
 ·rw[hPv];exact⟨hD,zJ hD _,rfl⟩
 ·rw[hPv] at h;exact h.2.1.seq hS
 ·rw[hSv] at hs;rw[hPv] at h;obtain⟨o1,rfl⟩:=hs;refine pA fun Gw gZ=>?_;obtain⟨nD,g,rfl⟩:=h;refine gZ ?_;rw[u4T] at hx;refine pA fun Gx fA=>?_;obtain⟨c,hc,rfl⟩:=u4e.mp hx;refine fA ?_;rw[u3z] at hi;walk_at "wp";refine htt c H2 _ (u4F hc) g ?_;cases e:f c with
  | true=>
   refine⟨fun _=>?_,fun c=>absurd rfl c⟩;refine CompP.mk hD hy (by rw[u4Q];omega) (by rw[hSv];exact⟨_,rfl⟩) (by
    rw[hPv];refine⟨nD,g.write nD _,?_⟩;rw[u4N,hc,List.filter_append];simp [e])
  | false=>
   refine⟨fun c=>(nomatch c),fun _=>?_⟩;refine⟨by rw[hSv];exact⟨_,rfl⟩,_,hD,by omega,?_⟩;rw[hPv];refine⟨nD,g,?_⟩;rw[u4N,hc,List.filter_append];simp [e]
 ·rw[hPv] at h;refine pA fun Gy fB=>?_;obtain⟨nD,g,rfl⟩:=h;refine fB ?_;rw[u3z,u4b] at hD;exact hq D H2 g nD hD
theorem z7z {d:Nat}:∀ {ps:List Pap},(∀p∈ps,p.dep<=d)->Pap.deps ps<=d
 | [],_=>u4q _
 | q::ps,h=>by
  have h1:=h q (by simp);have h2:=z7z (ps:=ps) fun p hp=>h p (by simp [hp]);simp only [Pap.deps];omega
noncomputable def PTop (K:u3q) (H H':Hp) (v:V) (p:Pap):Prop:=(∃(a:Addr) (k:Int),p=.inn k/\v=.ref a/\H' a=some (.tup [.str "in",.int k]))∨∃(a l:Addr) (b:Int) (ys:List V) (ps:List Pap),p=.par b ps/\v=.ref a/\H' a=some (.tup [.str "parted",.int b,.ref l])/\H' l=some (.lst ys)/\H l=none/\ys.length<2^60/\PapsIn K (fun x=>H x=none/\x≠l) H' ys ps
theorem PTop.pap {K:u3q} {H H':Hp} {v:V} {p:Pap} (h:PTop K H H' v p):PapIn K (fun l=>H l=none) H' v p:=by
 rcases h with⟨a,k,rfl,rfl,h⟩|⟨a,l,b,ys,ps,rfl,rfl,h1,h2,h3,h4,h5⟩
 ·exact .inn h
 ·exact .par h1 h2 h3 h4 (h5.imp fun x hx=>hx.1)
theorem PTop.older {K:u3q} {H0 H H':Hp} {v:V} {p:Pap} (g:Same H0 H) (h:PTop K H H' v p):PTop K H0 H' v p:=by
 have f:∀l,H l=none->H0 l=none:=fun l hl=>by
  cases e:H0 l with
  | none=>rfl
  | some o=>
   rw[g _ _ e] at hl;cases hl
 rcases h with h|⟨a,l,b,ys,ps,e1,e2,h1,h2,h3,h4,h5⟩
 ·exact .inl h
 ·exact .inr ⟨a,l,b,ys,ps,e1,e2,h1,h2,f l h3,h4,h5.imp fun x hx=>⟨f x hx.1,hx.2⟩⟩
noncomputable abbrev wAt (ws:List T3) (k:Int):T3:=ws.getD k.toNat (1,0,1)
theorem z7j:∀(ps:List Pap) (p:Pap),Pap.kns (ps++[p])=Pap.kns ps+p.kn
 | [],p=>by simp [Pap.kns]
 | q::ps,p=>by
  show q.kn+Pap.kns (ps++[p])=q.kn+Pap.kns ps+p.kn;rw[z7j ps p];omega
theorem y5B {u:T3} {s r:Int} (hu:Wk u) (h:Cov [u] s r):z6L u s r=true:=by
 unfold z6L;refine decide_eq_true ((y2j hu.1 hu.2.2.2.1 hu.2.2.2.2).mpr fun k _=>?_);refine pA fun Gz fE=>?_;obtain⟨v,hv,a⟩:=h k;refine fE ?_;rw[u4O.mp hv] at a;exact a
noncomputable def y3V (K:u3q) (d:Nat):Sp:=fun vs H Q _=>∃(a pt n:Addr) (xs:List V) (ws:List T3) (s r L:Int) (ks:List Int),vs=[.ref a,.ref pt,.ref n]/\SqL K H a xs/\Pl H xs ws/\(∀u∈ws,Wk u)/\ks.Pairwise (fun a _=>(wAt ws a).1∣L)/\1<=L/\L<=5000/\SqT K H pt [.int s,.int r]/\1<=s/\s∣L/\L<s*2^d/\SqL K H n (ks.map V.int)/\ks.length<=1000/\(∀k∈ks,0<=k/\k<ws.length)/\Cov (ks.map (wAt ws)) s r/\
 ∀(v:V) (p:Pap) (H':Hp),Same H H'->PTop K H H' v p->p.dep<=d->yB ws s r p=true->((p.kn:Int)+1)*s<=2*L->Q v H'
theorem z1A (T:TF K mg "paper_of_part" x5) (u0O:mg "range" = none) (u3o:Has P w K mg base 2 "meets" ["waking", "part"] (z7I K)) (u1a:Has P w K mg base 2 "lies_in" ["waking", "part"] (wG K)) (u3V:Has P w K mg base 2 "parting" ["waking", "part"] (z1g K)) (u0s:Has P w K mg base 1 "part_of_part" ["part", "by", "number"] (wE K)) :
  ∀d:Nat,Has P w K mg base (d+3) "paper_of_part" ["plan", "part", "near"] (y3V K d):=by
 intro d
 induction d with
 | zero=>
  have no:∀ {s L:Int},1<=L->s∣L->L<s*2^0->False:=fun {s L} l1 h1 h2=>by
   have:=Int.le_of_dvd (show 0<L by omega) h1;omega
  refine T.has yG (fun _ _ _ _ _ _=>L2.bnd3 fun _ _ _=>rfl) (fun vs H Q E h=>?_) (fun f cdv A outer s H vs Q E hr h=>?_)
  ·refine pA fun Ga hU=>?_;obtain⟨_,_,_,_,_,_,_,_,_,_,_,_,_,_,l1,_,_,_,h1,h2,_⟩:=h;refine hU ?_;exact (no l1 h1 h2).elim
  ·refine pA fun Gb hV=>?_;obtain⟨_,_,_,_,_,_,_,_,_,_,_,_,_,_,l1,_,_,_,h1,h2,_⟩:=h;refine hV ?_;exact (no l1 h1 h2).elim
 | succ d ih=>
 have u0m:=ih;refine T.has yG (fun _ _ _ _ _ _=>L2.bnd3 fun _ _ _=>rfl) (fun vs H Q E h=>?_) (fun f cdv A outer s H vs Q E hr h=>?_)
 ·refine pA fun Gc gB=>?_;obtain⟨a,pt,n,xs,ws,s,r,L,ks,rfl,_⟩:=h;refine gB ?_;rfl
 refine pA fun Gd gC=>?_;obtain⟨a,pt,n,xs,ws,st,r,L,ks,rfl,hS,hP,hw,hwL,L1,L5,hpt,s0,sL,sd,hn,nl,hk,cov,q⟩:=h;refine gC ?_;refine⟨_,(zC (zQ (i:=4) yG.nd rfl (Or.inr rfl) (yz (CompSc.capt (own:=["k"]) (capt:=["plan", "part"]) (fr:=[0,1]) rfl ⟨rfl,rfl,rfl,rfl,rfl,⟨rfl,rfl,rfl,rfl,rfl,trivial⟩⟩ (by decide +kernel) (by decide +kernel) rfl (by decide +kernel)) rfl (yQ (pv 2)) (fun _ _ _=>(zd (i:=0) (show (["k", "plan", "part"]:List Str).Nodup from by decide +kernel) rfl (Or.inl rfl) (Or.inr rfl))) (fun _ _ _=>z9s (yE (zS (u3o.mono (by first|decide|omega)) hr (zB (zY (y2r (K:=K) rfl) (pv 1) (pv 0) (fun _ _=>rfl)) (zB (pv 2) zE))) (fun _=>rfl))) (fun _ _ _=>(pv 0)))) (zC (xR u4p rfl (yQ (pv 4)) (zd (i:=3) yG.nd rfl (Or.inl rfl)) (zF (zh (yE (zS (u1a.mono (by first|decide|omega)) hr (zB (zY za (pv 0) (pv 3) (fun _ _=>rfl)) (zB (pv 1) zE))) (fun _=>rfl)) (zF (zL (yF (zB zM (zB (pv 3) zE))))) zP))) (zC (zQ (i:=5) yG.nd rfl (Or.inr rfl) (zS (u3V.mono (by first|decide|omega)) hr (zB (zY za (pv 0) (zY za (pv 4) zG (fun _ _=>rfl)) (fun _ _=>rfl)) (zB (pv 1) zE)))) (zC (z1x (i:=6) yG.nd rfl (Or.inl rfl) (CompSc.capt (own:=["number"]) (capt:=["plan", "part", "met", "by"]) (fr:=[0,1,4,5]) rfl ⟨rfl,rfl,rfl,rfl,rfl,⟨rfl,rfl,rfl,rfl,rfl,⟨rfl,rfl,rfl,rfl,rfl,⟨rfl,rfl,rfl,rfl,rfl,trivial⟩⟩⟩⟩ (by decide +kernel) (by decide +kernel) rfl (by decide +kernel)) rfl (kZ rfl u0O (zB (pv 5) zE)) (fun _ _ _=>(zd (i:=0) (show (["number", "plan", "part", "met", "by"]:List Str).Nodup from by decide +kernel) rfl (Or.inl rfl) (Or.inr rfl))) (fun _ _ _=>yx) (fun _ _ _=>(zS (u0m.mono (by first|decide|omega)) hr (zB (pv 1) (zB (zS (u0s.mono (by first|decide|omega)) hr (zB (pv 2) (zB (pv 4) (zB (pv 0) zE)))) (zB (pv 3) zE)))))) (zF (zL (yF (zB zM (zB (pv 5) (zB (pv 6) zE)))))))))),?_⟩;walk_at "wp";refine⟨⟨_,hn⟩,?_⟩;have wk:∀k∈ks,Wk (wAt ws k):=fun k hk2=>by
  obtain⟨k0,k1⟩:=hk k hk2;have:k.toNat<ws.length:=by omega
  show Wk (ws.getD k.toNat (1,0,1));rw[u4M,u4A this];exact hw _ (u5T this)
 refine y5D (rest:=[some (.ref a),some (.ref pt)]) (fun k=>z0p (wAt ws k) st r) rfl hn nl (fun c H2 R hc g hR=>?_) fun D H1 g1 nD hD=>?_
 ·refine pA fun Ge gE=>?_;obtain⟨p,u,e1,e2,mu,e3⟩:=(hP.same g).ix (hk c hc).1 (hk c hc).2;refine gE ?_;have eu:wAt ws c=u:=by
   show ws.getD c.toNat (1,0,1)=u;rw[u4M,e2];rfl
  walk_at "wp";refine zc (g.seq hS) e1 ?_;refine⟨p,pt,u,st,r,rfl,e3,Same.seqT g hpt,(hw u mu).1,s0,?_⟩;refine⟨_,rfl,?_⟩;rw[←eu];exact hR
 generalize hms:ks.filter (fun k=>z0p (wAt ws k) st r)=ms at hD;have msub:∀k∈ms,k∈ks/\z0p (wAt ws k) st r=true:=fun k h=>by
  rw[←hms] at h;exact List.mem_filter.mp h
 have ml:ms.length<=1000:=by rw[←hms];exact u5I (List.length_filter_le _ _) nl
 have mcov:Cov (ms.map (wAt ws)) st r:=by
  have c:=Cov.met (fun u hu=>by obtain⟨k,hk2,rfl⟩:=u4l.mp hu;exact wk k hk2) s0 cov;rw[List.filter_map] at c;rw[←hms];exact c
 have hS1:=g1.seq hS;have hP1:=hP.same g1;have hpt1:=Same.seqT g1 hpt;walk_at "wp";refine⟨⟨_,SqL.of hD⟩,?_⟩;obtain⟨W,hW⟩:∃W:Nat->St->Hp->Prop,W=fun i σ H'=>∃o:Option V,σ=[some (.ref a),some (.ref pt),some (.ref n),o,some (.ref D),none,none]/\H'=H1/\∀k∈ms.take i,z6L (wAt ws k) st r=false:=⟨_,rfl⟩
 refine yv (xs:=ms.map V.int) W ?_ (fun i σ H' _ z=>?_) (fun i x σ H' hx z=>?_) (fun σ H' z=>?_)
 ·rw[hW];exact⟨_,rfl,rfl,fun k h=>by simp at h⟩
 ·rw[hW] at z;refine pA fun Gf gG=>?_;obtain⟨_,_,rfl,_⟩:=z;refine gG ?_;exact SqL.of hD
 ·rw[hW] at z;refine pA fun Gg gH=>?_;obtain⟨o,rfl,rfl,hz⟩:=z;refine gH ?_;rw[u4T] at hx;refine pA fun Gh gI=>?_;obtain⟨k,hk2,rfl⟩:=u4e.mp hx;refine gI ?_;obtain⟨mk,mm⟩:=msub k (u4F hk2);obtain⟨k0,k1⟩:=hk k mk;refine pA fun Gi gJ=>?_;obtain⟨p,u,e1,e2,mu,e3⟩:=hP1.ix k0 k1;refine gJ ?_;have eu:wAt ws k=u:=by
   show ws.getD k.toNat (1,0,1)=u;rw[u4M,e2];rfl
  walk_at "wp";refine zc hS1 e1 ?_;refine⟨p,pt,u,st,r,rfl,e3,hpt1,(hw u mu).1,s0,?_⟩;refine⟨_,rfl,fun c=>?_,fun c=>?_⟩
  ·intro q1 nq;refine q (.ref q1) (.inn k) _ (g1.trans (zJ nq _)) (.inl ⟨q1,k,rfl,rfl,zH⟩) (u4q _) ?_ (by have:=Int.le_of_dvd (show 0<L by omega) sL;show (1+1)*st<=2*L;omega);unfold yB;rw[decide_eq_true k0,decide_eq_true k1];show (true && (true && z6L (wAt ws k) st r))=true;rw[eu,c];rfl
  ·rw[hW];refine⟨_,rfl,rfl,fun j hj=>?_⟩;rw[u4N,hk2] at hj;rcases u4H.mp hj with z|z
   ·exact hz j z
   ·have:j=k:=by simpa using z
    rw[this,eu];simpa using c
 ·rw[hW] at z;refine pA fun Gj gK=>?_;obtain⟨o,rfl,rfl,hz⟩:=z;refine gK ?_;rw[u3z,u4b] at hz;have mne:ms≠[]:=fun e=>Cov.some mcov (by rw[e];rfl);refine pA fun Gk gL=>?_;obtain⟨m0,mt,em⟩:=List.exists_cons_of_ne_nil mne;refine gL ?_;have m0m:m0∈ms:=by rw[em];simp
  obtain⟨mk,mm⟩:=msub m0 m0m;obtain⟨k0,k1⟩:=hk m0 mk;refine pA fun Gm gM=>?_;obtain⟨p,u,e1,e2,mu,e3⟩:=hP1.ix k0 k1;refine gM ?_;have eu:wAt ws m0=u:=by
   show ws.getD m0.toNat (1,0,1)=u;rw[u4M,e2];rfl
  have two:=y2T (hw u mu) s0 (eu▸mm) (eu▸hz m0 m0m);have hwM:ms.Pairwise (fun a _=>(wAt ws a).1∣L):=by rw[←hms];exact hwL.sublist List.filter_sublist
  have uD:u.1∣L:=by
   cases mt with
   | nil=>
    rw[em] at mcov;have:=y5B (hw u mu) (by rw[←eu];exact mcov);rw[←eu,hz m0 m0m] at this;cases this
   | cons m1 mt=>
    rw[em] at hwM;exact eu▸(List.pairwise_cons.mp hwM).1 m1 (by simp)
  have uL:=Int.le_of_dvd (show 0<L by omega) uD;have u1:=(hw u mu).1;walk_at "wp";refine zc (SqL.of hD) (v:=.int m0) (by rw[em];exact z8G (zs:=m0::mt) (i:=0) (by decide) (by simp only [u3x];omega)) ?_;refine zc hS1 e1 ?_;refine⟨p,pt,u,st,r,rfl,e3,hpt1,u1,by omega,s0,two,fun b H3 hb g3=>?_⟩;have b2:=hb.two;have g0:1<=yU st u.1:=z0K (u:=(st,0,0)) (v:=u) s0;have bl:b<=5000:=by
   have h1:=Int.le_of_dvd (show 0<u.1/yU st u.1 by omega) hb.dvd;have h2:u.1/yU st u.1<=u.1:=Int.ediv_le_self _ (by omega);omega
  have sbL:st*b∣L:=y2U s0 u1 sL uD hb.dvd;have sb1:1<=st*b:=by
   have:=Int.mul_pos (show 0<st by omega) (show 0<b by omega);omega
  have sbd:L<st*b*2^d:=by
   have e:st*2^(d+1)=st*2*2^d:=by rw[Int.pow_succ,Int.mul_comm (2^d) 2,u4t]
   have h1:=u4E b2 (show 0<=st by omega);have h2:=u6H h1 (show 0<=(2:Int)^d from u6U (Int.pow_pos (by decide)));rw[e] at sd;omega
  have g13:=g1.trans g3;walk_at "wp";refine⟨_,rfl,by omega,by omega,?_⟩;obtain⟨Sv,hSv⟩:∃Sv:St->Prop,Sv=fun σ=>∃o1,σ=[o1,some (.ref a),some (.ref pt),some (.ref D),some (.int b)]:=⟨_,rfl⟩
  obtain⟨Pv,hPv⟩:∃Pv:Addr->Nat->List V->Hp->Prop,Pv=fun B i ys H2=>H3 B=none/\Same H3 H2/\∃ps,PapsIn K (fun l=>H l=none/\l≠B) H2 ys ps/\ps.length=i/\(∀p∈ps,p.dep<=d)/\yM ws st r b 0 ps=true/\((Pap.kns ps:Int)+ps.length)*(st*b)<=2*L*ps.length:=⟨_,rfl⟩
  refine z6d Sv Pv (by rw[hSv];exact⟨none,rfl⟩) (fun B hB=>?_) (fun B j ys σ H2 hj hs hB hy h=>?_) (fun B ys H2 hB h=>?_)
  ·rw[hPv];exact⟨hB,zJ hB _,[],.nil,rfl,(fun p hp=>nomatch hp),by unfold yM;rfl,by simp [Pap.kns]⟩
  ·rw[hSv] at hs;rw[hPv] at h;obtain⟨o1,rfl⟩:=hs;refine pA fun Gn gN=>?_;obtain⟨nB,g4,ps,hps,pl,pd,rb,knb⟩:=h;refine gN ?_;have g14:=g13.trans g4;have e0:(0:Int)+(j:Int)=j:=by omega
   walk_at "wp";rw[e0];refine⟨pt,st,r,b,_,rfl,Same.seqT g14 hpt,by omega,by omega,by omega,by omega,fun P1 nP1=>?_⟩;have g5:=zJ nP1 (y6e (st*b) (r+st*(j:Int)));have g15:=g14.trans g5;refine⟨a,P1,D,xs,ws,st*b,r+st*(j:Int),L,ms,rfl,g15.seq hS,hP.same g15,hw,hwM,L1,L5,SqT.of zH,sb1,sbL,sbd,SqL.of (g5 _ _ (g4 _ _ (g3 _ _ hD))),ml,fun k h=>hk k (msub k h).1,mcov.parted b j,fun v p1 H5 g6 hp1 d1 r1 kn1=>?_⟩;have hB5:=g6 _ _ (g5 _ _ hB);have g56:=g5.trans g6;refine CompP.mk hB5 hy (by rw[u4Q];omega) (by rw[hSv];exact⟨_,rfl⟩) (by
    rw[hPv];refine⟨nB,(g4.trans g56).write nB _,ps++[p1],?_,by simp [pl],fun p hp=>?_,z4Z rb (by rw[pl];exact r1),?_⟩
    ·refine PapsIn.write hB5 (fun l h=>h.2) ((hps.mono g56).snoc (hp1.pap.imp fun l hl=>⟨?_,fun e=>?_⟩))
     ·cases e:H l with
      | none=>rfl
      | some o=>
       rw[g15 _ _ e] at hl;cases hl
     ·rw[e,g5 _ _ hB] at hl;cases hl
    ·rcases u4H.mp hp with z|z
     ·exact pd p z
     ·rw[u4O.mp z];exact d1
    ·have ek:Pap.kns (ps++[p1])=Pap.kns ps+p1.kn:=z7j ps p1;rw[ek,u3s];have e1:(((Pap.kns ps+p1.kn:Nat):Int)+((ps.length + [p1].length:Nat):Int))*(st*b)=((Pap.kns ps:Int)+ps.length)*(st*b)+((p1.kn:Int)+1)*(st*b):=by
      rw[←Int.add_mul];congr 1;simp;omega
     have e2:2*L*((ps.length + [p1].length:Nat):Int)=2*L*ps.length+2*L:=by
      rw[show ((ps.length + [p1].length:Nat):Int)=(ps.length:Int)+1 by simp,Int.mul_add,Int.mul_one]
     rw[e1,e2];omega)
  ·rw[hPv] at h;refine pA fun Go gO=>?_;obtain⟨nB,g4,ps,hps,pl,pd,rb,knb⟩:=h;refine gO ?_;walk_at "wp";intro q1 nq;have gq:=zJ nq (.tup [V.str "parted",.int b,.ref B]);have nB':H B=none:=by
    cases e:H B with
    | none=>rfl
    | some o=>
     rw[g13 _ _ e] at nB;cases nB
   have lys:=hps.len;refine q (.ref q1) (.par b ps) _ ((g13.trans g4).trans gq) (.inr ⟨q1,B,b,ys,ps,rfl,rfl,zH,gq _ _ hB,nB',by omega,hps.mono gq⟩) ?_ ?_ ?_
   ·have:=z7z pd;show Pap.deps ps+1<=d+1;omega
   ·unfold yB;rw[decide_eq_true b2,decide_eq_true (show (ps.length:Int)=b by omega),rb];rfl
   ·have lb:(ps.length:Int)=b:=by omega
    rw[lb] at knb;have h1:(((Pap.kns ps:Int)+b)*st)*b<=(2*L)*b:=by rw[u4t];exact knb
    have h2:=Int.le_of_mul_le_mul_right h1 (show 0<b by omega);have h3:((((Pap.par b ps).kn:Nat):Int)+1)*st<=((Pap.kns ps:Int)+b)*st:=u6H (by show ((Pap.kns ps+1:Nat):Int)+1<=_;omega) (by omega);omega
theorem y3v {ws:List T3} {u:T3} (h:u∈ws):u∈(z3u ws.length).map (wAt ws):=by
 refine pA fun Gp gP=>?_;obtain⟨i,hi,e⟩:=List.getElem_of_mem h;refine gP ?_;refine u4l.mpr ⟨(i:Int),u4l.mpr ⟨i,u5j.mpr hi,rfl⟩,?_⟩;show ws.getD ((i:Int)).toNat (1,0,1)=u;rw[u6Z,u4M,u4A hi,e];rfl
theorem y5C {ws:List T3} (hw:∀u∈ws,1<=u.1) (h:xP ws (kJ (ws.map (·.1))).toNat=none):Cov ((z3u ws.length).map (wAt ws)) 1 0:=fun x=>by
 have L1:=kj (xs:=ws.map (·.1)) fun z hz=>by
  refine pA fun Gq gQ=>?_;obtain⟨u,hu,rfl⟩:=u4l.mp hz;refine gQ ?_;exact hw u hu
 have dv:∀u∈ws,u.1∣kJ (ws.map (·.1)):=fun u hu=>y3H (fun z hz=>by
  refine pA fun Gr gR=>?_;obtain⟨u,hu,rfl⟩:=u4l.mp hz;refine gR ?_;exact hw u hu) u.1 (u4l.mpr ⟨u,hu,rfl⟩)
 generalize kJ (ws.map (·.1))=L at *
 have m:=z3I x L1;obtain⟨k,hk⟩:=wW x L;rcases wY (ws:=ws) (n:=L.toNat) with⟨i,e,_⟩|⟨_,all⟩
 ·rw[h] at e;cases e
 ·have a:=all (x%L).toNat (by omega);have e1:(((x%L).toNat:Nat):Int)=x%L:=by omega
  have e2:0+1*x=x%L+L*k:=by omega
  rw[e1,←z6g (L:=L*k) (fun u hu=>u5K (dv u hu) ⟨k,rfl⟩)] at a;unfold yf at a;refine pA fun Gs gU=>?_;obtain⟨u,mu,hu⟩:=u6P.mp a;refine gU ?_;refine⟨u,y3v mu,?_⟩;rw[e2];have hu':(x%L+L*k-u.2.1)%u.1<u.2.2:=of_decide_eq_true hu;exact hu'
noncomputable def z7P (K:u3q) (C:Addr):Sp:=fun vs H Q E=>∃(a:Addr) (xs:List V) (ws:List T3) (L:Int),vs=[.ref a]/\SqL K H a xs/\Pl H xs ws/\(∀u∈ws,Wk u/\u.1<=2^1000)/\ws.length<=200/\(z3u ws.length).Pairwise (fun a _=>(wAt ws a).1∣L)/\1<=L/\L<=5000/\
 (5000<kJ (ws.map (·.1))->∀x H',Same H H'->H' x=none->E (.ref C) (some x) H')/\(kJ (ws.map (·.1))<=5000->xP ws (kJ (ws.map (·.1))).toNat≠none->∀H',Same H H'->Q .non H')/\(kJ (ws.map (·.1))<=5000->xP ws (kJ (ws.map (·.1))).toNat=none->∀(v:V) (p:Pap) (H':Hp),Same H H'->PTop K H H' v p->p.dep<=13->yB ws 1 0 p=true->(p.kn:Int)+1<=2*L->Q v H')
theorem z3g {C:Addr} (T:TF K mg "cover_paper" jU) (u0D:mg "len" = none) (u0O:mg "range" = none) (u0J:mg "list" = none) (u0a:CT K mg "ALL_TURNS" [1,0]) (u2T:HasX P w K mg base 4 "hole" ["plan"] (z2i K C)) (u0m:Has P w K mg base 16 "paper_of_part" ["plan", "part", "near"] (y3V K 13)):HasX P w K mg base 17 "cover_paper" ["plan"] (z7P K C):=by
 refine pA fun Gu gW=>?_;obtain⟨a_ALL_TURNS,e_ALL_TURNS,hAT⟩:=u0a;refine gW ?_;refine T.hasX z1R (fun _ _ _ _ _ _=>L2.bnd1 fun _=>rfl) (fun vs H Q E h=>?_) (fun f cdv A outer s H vs Q E hr h=>?_)
 ·refine pA fun Gv gX=>?_;obtain⟨a,xs,ws,L,rfl,_⟩:=h;refine gX ?_;rfl
 refine pA fun Gw gZ=>?_;obtain⟨a,xs,ws,L,rfl,hS,hP,hw,hl,hpw,L1,L5,qx,q1,q2⟩:=h;refine gZ ?_;refine⟨_,(zC (zh (zR kF (qE (u2T.mono (by first|decide|omega)) hr z1S (zB (pv 0) zE)) yI (zV _)) (zF (zL yI)) zP) (zF (zL (zS (u0m.mono (by first|decide|omega)) hr (zB (pv 0) (zB (xN (v:=.ref a_ALL_TURNS) rfl e_ALL_TURNS rfl) (zB (zZ (z3r rfl) rfl u0J (by decide +kernel) (zB (z9v rfl u0O (zB (zf zo rfl u0D u4n (zB (pv 0) zE)) zE)) zE)) zE))))))),?_⟩;have w1:∀u∈ws,1<=u.1:=fun u h=>(hw u h).1.1;have w2:∀u∈ws,1<=u.1/\u.1<=2^1000:=fun u hu=>⟨w1 u hu,(hw u hu).2⟩
 walk_at "wp";refine⟨a,xs,ws,rfl,hS,hP,w2,hl,fun c x H1 g1 hx=>qx c x H1 g1 hx,fun c H1 g1=>?_⟩;cases e:xP ws (kJ (ws.map (·.1))).toNat with
 | some x=>
  walk_at "wp";exact q1 c (by rw[e];exact fun z=>nomatch z) H1 g1
 | none=>
  walk_at "wp";refine⟨_,_,rfl,.inl (g1.seq hS),_,rfl,fun p1 z1=>?_⟩;have g2:=zJ z1 (.rng 0 (xs.length:Int));refine⟨p1,_,rfl,zH,by omega,by rw[hP.1];omega,fun l z2=>?_⟩;have z2':=z2;rw[hP.1] at g2 z2' ⊢;rw[u6Z];have g3:=zJ z2' (IL (z3u ws.length));have g4:=(g1.trans g2).trans g3;refine⟨a,a_ALL_TURNS,l,xs,ws,1,0,L,z3u ws.length,rfl,g4.seq hS,hP.same g4,fun u hu=>(hw u hu).1,hpw,L1,L5,hAT _,by decide,⟨_,(Int.one_mul _).symm⟩,by omega,SqL.of zH,by unfold z3u;simp;omega,fun k hk=>?_,y5C w1 e,fun v p H' g5 hp hd hr2 kb=>?_⟩
  ·refine pA fun Gx fA=>?_;obtain⟨i,hi,rfl⟩:=u4l.mp hk;refine fA ?_;have:=u5j.mp hi;omega
  ·exact q2 c e v p H' (g4.trans g5) (hp.older g4) hd hr2 (by rw[Int.mul_one] at kb;exact kb)
theorem z9h {ws us:List T3} {B:Int} (hw:∀u∈ws,Wk u) (hB:∀u∈ws,u.1<=B):∀x∈shs ws us,1<=x.1/\x.1<=B:=fun x hx=>by
 refine pA fun Gy fB=>?_;obtain⟨u,mu,v,mv,rfl⟩:=z0n.mp hx;refine fB ?_;have h1:=z0K (v:=v) (hw u mu).1;have h2:yU u.1 v.1<=u.1:=xJ _ (by have:=(hw u mu).1;omega);exact⟨h1,Int.le_trans h2 (hB u mu)⟩
noncomputable abbrev rnS (ws us:List T3):Int:=kJ ((shs ws us).map (·.1))
noncomputable def wF (K:u3q) (C:Addr):Sp:=fun vs H Q E=>∃(a b:Addr) (xs ys:List V) (ws us:List T3),vs=[.ref a,.ref b]/\SqL K H a xs/\Pl H xs ws/\SqL K H b ys/\Pl H ys us/\(∀u∈ws,Wk u)/\(∀u∈us,Wk u)/\(∀u∈ws,u.1<=2^1000)/\ws.length<=14/\us.length<=14/\(5000<rnS ws us->∀x H',Same H H'->H' x=none->E (.ref C) (some x) H')/\(rnS ws us<=5000->∀H',Same H H'->Q (oV (xP (shs ws us) (rnS ws us).toNat)) H')
theorem z1W {C:Addr} (T:TF K mg "lonely_shift" xq) (u1I:Has P w K mg base 3 "shifts" ["one", "other"] (kO K)) (u2T:HasX P w K mg base 4 "hole" ["plan"] (z2i K C)):HasX P w K mg base 5 "lonely_shift" ["one", "other"] (wF K C):=by
 refine T.hasX z0N (fun _ _ _ _ _ _=>L2.bnd2 fun _ _=>rfl) (fun vs H Q E h=>?_) (fun f cdv A outer s H vs Q E hr h=>?_)
 ·refine pA fun Gz fE=>?_;obtain⟨a,b,xs,ys,ws,us,rfl,_⟩:=h;refine fE ?_;rfl
 refine pA fun Ga hU=>?_;obtain⟨a,b,xs,ys,ws,us,rfl,hS,hP,hS2,hP2,hw,hu,wB,lw,lu,qx,q⟩:=h;refine hU ?_;refine⟨_,(zF (zL (qE (u2T.mono (by first|decide|omega)) hr z1S (zB (zS (u1I.mono (by first|decide|omega)) hr (zB (pv 0) (zB (pv 1) zE))) zE)))),?_⟩;walk_at "wp";refine⟨a,b,xs,ys,ws,us,rfl,hS,hP,hS2,hP2,fun u h=>(hw u h).1,fun u h=>(hu u h).1,by omega,by omega,fun D zs H1 g1 nD hD hZ=>?_⟩;have lm:=Nat.mul_le_mul lw lu;exact⟨D,zs,_,rfl,SqL.of hD,hZ,z9h hw wB,by rw[wH];omega,fun c x H' g' hx=>qx c x H' (g1.trans g') hx,fun c H' g'=>q c H' (g1.trans g')⟩
noncomputable def z0H (K:u3q) (C:Addr):Sp:=fun vs H Q E=>∃(a b:Addr) (xs ys:List V) (ws us:List T3) (L:Int),vs=[.ref a,.ref b]/\SqL K H a xs/\Pl H xs ws/\SqL K H b ys/\Pl H ys us/\(∀u∈ws,Wk u)/\(∀u∈us,Wk u)/\(∀u∈ws,u.1<=2^1000)/\ws.length<=14/\us.length<=14/\(z3u (shs ws us).length).Pairwise (fun a _=>(wAt (shs ws us) a).1∣L)/\1<=L/\L<=5000/\
 (5000<rnS ws us->∀x H',Same H H'->H' x=none->E (.ref C) (some x) H')/\(rnS ws us<=5000->xP (shs ws us) (rnS ws us).toNat≠none->∀H',Same H H'->Q .non H')/\(rnS ws us<=5000->xP (shs ws us) (rnS ws us).toNat=none->∀(v:V) (p:Pap) (H':Hp),Same H H'->PTop K H H' v p->p.dep<=13->yB (shs ws us) 1 0 p=true->(p.kn:Int)+1<=2*L->Q v H')
theorem z1C {C:Addr} (T:TF K mg "meeting_paper" x8) (u1I:Has P w K mg base 3 "shifts" ["one", "other"] (kO K)) (u2E:HasX P w K mg base 17 "cover_paper" ["plan"] (z7P K C)):HasX P w K mg base 18 "meeting_paper" ["one", "other"] (z0H K C):=by
 refine T.hasX vJ (fun _ _ _ _ _ _=>L2.bnd2 fun _ _=>rfl) (fun vs H Q E h=>?_) (fun f cdv A outer s H vs Q E hr h=>?_)
 ·refine pA fun Gb hV=>?_;obtain⟨a,b,xs,ys,ws,us,L,rfl,_⟩:=h;refine hV ?_;rfl
 refine pA fun Gc gB=>?_;obtain⟨a,b,xs,ys,ws,us,L,rfl,hS,hP,hS2,hP2,hw,hu,wB,lw,lu,pw,L1,L5,qx,q1,q2⟩:=h;refine gB ?_;refine⟨_,(zF (zL (qE (u2E.mono (by first|decide|omega)) hr z1S (zB (zS (u1I.mono (by first|decide|omega)) hr (zB (pv 0) (zB (pv 1) zE))) zE)))),?_⟩;walk_at "wp";refine⟨a,b,xs,ys,ws,us,rfl,hS,hP,hS2,hP2,fun u h=>(hw u h).1,fun u h=>(hu u h).1,by omega,by omega,fun D zs H1 g1 nD hD hZ=>?_⟩;have lm:=Nat.mul_le_mul lw lu;exact⟨D,zs,_,L,rfl,SqL.of hD,hZ,fun u hu2=>⟨y3X hw hu u hu2,(z9h hw wB u hu2).2⟩,by rw[wH];omega,pw,L1,L5,fun c x H' g' hx=>qx c x H' (g1.trans g') hx,fun c hn H' g'=>q1 c hn H' (g1.trans g'),fun c hn v p H' g' hp hd hr2 kb=>q2 c hn v p H' (g1.trans g') (hp.older g1) hd hr2 kb⟩
noncomputable def z7H (K:u3q) (d:Nat):Sp:=fun vs H Q _=>∃(v:V) (p:Pap),vs=[v]/\PapIn K z3w H v p/\p.dep<d/\p.kn<=2^20/\∀(D:Addr) (H':Hp),Same H H'->H D=none->H' D=some (IL p.nm)->Q (.ref D) H'
theorem z3a (T:TF K mg "paper_names" jR):∀d:Nat,Has P w K mg base (d+1) "paper_names" ["paper"] (z7H K d):=by
 intro d
 induction d with
 | zero=>
  refine T.has xC (fun _ _ _ _ _ _=>L2.bnd1 fun _=>rfl) (fun vs H Q E h=>?_) (fun f cdv A outer s H vs Q E hr h=>?_)
  ·refine pA fun Gd gC=>?_;obtain⟨_,_,_,_,h,_⟩:=h;refine gC ?_;exact absurd h (u6K _)
  ·refine pA fun Ge gE=>?_;obtain⟨_,_,_,_,h,_⟩:=h;refine gE ?_;exact absurd h (u6K _)
 | succ d ih=>
 have u1D:=ih;refine T.has xC (fun _ _ _ _ _ _=>L2.bnd1 fun _=>rfl) (fun vs H Q E h=>?_) (fun f cdv A outer s H vs Q E hr h=>?_)
 ·refine pA fun Gf gG=>?_;obtain⟨v,p,rfl,_⟩:=h;refine gG ?_;rfl
 refine pA fun Gg gH=>?_;obtain⟨v,p,rfl,hv,hd,hk,q⟩:=h;refine gH ?_;refine⟨_,(zC (zh (zR yX (zY zg (pv 0) zG (fun _ _=>rfl)) zM (zV _)) (zF (zL (yV (zB (zY zg (pv 0) zG (fun _ _=>rfl)) zE)))) zP) (zC (zQ (i:=1) xC.nd rfl (Or.inl rfl) (yV zE)) (zC (xR u4p rfl (yQ (zY zg (pv 0) zG (fun _ _=>rfl))) (zd (i:=2) xC.nd rfl (Or.inl rfl)) (zF (yy (xx u4v PySem.F.slot_list_extend PySem.F.type_list_extend z4o (pv 1) (zB (zS (u1D.mono (by first|decide|omega)) hr (zB (pv 2) zE)) zE))))) (zF (zL (pv 1)))))),?_⟩;cases hv with
 | @inn b k hb=>
  have hT:SqT K H b [.str "in",.int k]:=SqT.of hb;walk_at "wp";refine⟨_,_,_,.str "in",rfl,rfl,hT,rfl,rfl,?_⟩;walk_at "wp";refine⟨_,_,_,.int k,rfl,rfl,hT,rfl,fun D hD=>?_⟩;exact q D _ (zJ hD _) hD zH
 | @par b l bb ys ps hb hl _ lz hs=>
  have hT:SqT K H b [.str "parted",.int bb,.ref l]:=SqT.of hb;simp only [Pap.dep] at hd;simp only [Pap.kn] at hk;have hlen:=hs.len;walk_at "wp";refine⟨_,_,_,.str "parted",rfl,rfl,hT,rfl,rfl,?_⟩;walk_at "wp";refine⟨fun c=>absurd c (by decide),fun _ D hD=>?_⟩;have g0:=zJ hD (.lst []);refine⟨_,_,_,.ref l,rfl,rfl,Same.seqT g0 hT,rfl,?_⟩;refine⟨_,rfl,⟨_,SqL.of (g0 _ _ hl)⟩,?_⟩;obtain⟨W,hW⟩:∃W:Nat->St->Hp->Prop,W=fun i σ H'=>∃o:Option V,σ=[some (.ref b),some (.ref D),o]/\Same H H'/\H' D=some (IL (Pap.nms (ps.take i))):=⟨_,rfl⟩
  refine yv (xs:=ys) W ?_ (fun i σ H' _ z=>?_) (fun i x σ H' hx z=>?_) (fun σ H' z=>?_)
  ·rw[hW];exact⟨none,rfl,g0,zH⟩
  ·rw[hW] at z;refine pA fun Gh gI=>?_;obtain⟨_,_,g,_⟩:=z;refine gI ?_;exact SqL.of (g _ _ hl)
  ·rw[hW] at z;refine pA fun Gi gJ=>?_;obtain⟨o,rfl,g,hD2⟩:=z;refine gJ ?_;refine pA fun Gj gK=>?_;obtain⟨p,e1,hp⟩:=hs.at hx;refine gK ?_;have m1:=Pap.dep_mem (u4F e1);have m2:=Pap.kn_mem (u4F e1);walk_at "wp";refine⟨.inl ⟨rfl,_,SqL.of hD2⟩,x,p,rfl,hp.mono g,by omega,by omega,fun E2 H3 g3 nE hE=>?_⟩;have hD3:=g3 _ _ hD2;have l1:=Pap.nms_len (ps.take i);have l2:=p.nm_len;have l3:=Pap.kns_take e1;have l4:Pap.kns (ps.take (i+1))<=Pap.kns ps:=by
    have:=Pap.kns_append (ps.take (i+1)) (ps.drop (i+1));rw[List.take_append_drop] at this;omega
   refine⟨_,_,_,_,rfl,rfl,hD3,hE,by rw[u3z,u3z,u4Q];omega,?_⟩;rw[hW];refine⟨_,rfl,(g.trans g3).write hD _,?_⟩;rw[zH,Pap.nms_take e1];simp
  ·rw[hW] at z;refine pA fun Gk gL=>?_;obtain⟨o,rfl,g,hD2⟩:=z;refine gL ?_;rw[hlen,u4b] at hD2;walk_at "wp";exact q D H' g hD hD2
noncomputable def prd (ws us:List T3) (k:Int):Int:=kJ [(ws.getD (k/(us.length:Int)).toNat (1,0,1)).1,(us.getD (k%(us.length:Int)).toNat (1,0,1)).1]
noncomputable def IsMx (f:Int->Int) (ns:List Int) (M:Int):Prop:=(∃k∈ns,M=f k)/\∀k∈ns,f k<=M
theorem IsMx.uniq {f:Int->Int} {ns:List Int} {M N:Int} (h:IsMx f ns M) (k:IsMx f ns N):M=N:=by
 refine pA fun Gm gM=>?_;obtain⟨⟨a,ha,rfl⟩,h2⟩:=h;refine gM ?_;refine pA fun Gn gN=>?_;obtain⟨⟨b,hb,rfl⟩,k2⟩:=k;refine gN ?_;have:=h2 b hb;have:=k2 a ha;omega
mutual
theorem z4a {ws:List T3}:∀ {s r:Int} {p:Pap},yB ws s r p=true->(∀k∈p.nm,0<=k/\k<ws.length)/\p.nm≠[]
 | s,r,.inn k,h=>by
  simp only [yB,u4a,decide_eq_true_eq] at h;refine⟨fun j hj=>?_,by simp [Pap.nm]⟩;rw[show j=k from u4O.mp hj];exact⟨h.1,h.2.1⟩
 | s,r,.par b ps,h=>by
  simp only [yB,u4a,decide_eq_true_eq] at h;exact z1t h.2.2 (fun e=>by rw[e] at h;simp at h;omega)
theorem z1t {ws:List T3}:∀ {s r b:Int} {c:Nat} {ps:List Pap},yM ws s r b c ps=true->ps≠[]->(∀k∈Pap.nms ps,0<=k/\k<ws.length)/\Pap.nms ps≠[]
 | s,r,b,c,[],h,ne=>absurd rfl ne
 | s,r,b,c,p::ps,h,ne=>by
  simp only [yM,u4a] at h;have h1:=z4a h.1;refine⟨fun k hk=>?_,by simp [Pap.nms,h1.2]⟩;rcases u4H.mp hk with z|z
  ·exact h1.1 k z
  ·by_cases e:ps=[]
   ·rw[e] at z;exact nomatch z
   ·exact (z1t h.2 e).1 k z
end
noncomputable def z1h (K:u3q):Sp:=fun vs H Q _=>∃(v:V) (b:Addr) (ys:List V) (k:Int),vs=[v,.ref b,.int k]/\SqL K H b ys/\0<ys.length/\ys.length<=1000/\∀D,H D=none->Q (.ref D) (upd H D (.tup [.int (k/ys.length),.int (k%ys.length)]))
theorem y0j (T:TF K mg "pair_of" z0S) (u0D:mg "len" = none):Has P w K mg base 1 "pair_of" ["one", "other", "k"] (z1h K):=by
 refine T.has z8V (fun _ _ _ _ _ _=>L2.bnd3 fun _ _ _=>rfl) (fun vs H Q E h=>?_) (fun f cdv A outer s H vs Q E hr h=>?_)
 ·refine pA fun Go gO=>?_;obtain⟨v,b,ys,k,rfl,_⟩:=h;refine gO ?_;rfl
 refine pA fun Gp gP=>?_;obtain⟨v,b,ys,k,rfl,hS,l0,l1,q⟩:=h;refine gP ?_;refine⟨_,(zF (zL (yF (zB (zN zk (pv 2) (zf zo rfl u0D u4n (zB (pv 1) zE))) (zB (zN zi (pv 2) (zf zo rfl u0D u4n (zB (pv 1) zE))) zE))))),?_⟩;walk_at "wp";refine⟨_,_,rfl,.inl hS,z7x 20 (by omega) (by omega) (by decide),_,_,rfl,.inl hS,by omega,q⟩
noncomputable def kQ (K:u3q):Sp:=fun vs H Q _=>∃(a b:Addr) (xs ys:List V) (ws us:List T3) (k:Int),vs=[.ref a,.ref b,.int k]/\SqL K H a xs/\Pl H xs ws/\SqL K H b ys/\Pl H ys us/\(∀u∈ws,1<=u.1/\u.1<=2^1000)/\(∀u∈us,1<=u.1/\u.1<=2^1000)/\us.length<=1000/\0<=k/\k<ws.length*us.length/\∀H',Same H H'->Q (.int (prd ws us k)) H'
theorem z5H (T:TF K mg "pair_round" jr) (u3W:Has P w K mg base 1 "pair_of" ["one", "other", "k"] (z1h K)) (u1C:Has P w K mg base 2 "least_round" ["numbers"] (xn K)):Has P w K mg base 3 "pair_round" ["one", "other", "k"] (kQ K):=by
 refine T.has kW (fun _ _ _ _ _ _=>L2.bnd3 fun _ _ _=>rfl) (fun vs H Q E h=>?_) (fun f cdv A outer s H vs Q E hr h=>?_)
 ·refine pA fun Gq gQ=>?_;obtain⟨a,b,xs,ys,ws,us,k,rfl,_⟩:=h;refine gQ ?_;rfl
 refine pA fun Gr gR=>?_;obtain⟨a,b,xs,ys,ws,us,k,rfl,hS,hP,hS2,hP2,hw,hu,lu,k0,k1,q⟩:=h;refine gR ?_;refine⟨_,(zC (zQ (i:=3) kW.nd rfl (Or.inl rfl) (zS (u3W.mono (by first|decide|omega)) hr (zB (pv 0) (zB (pv 1) (zB (pv 2) zE))))) (zF (zL (zS (u1C.mono (by first|decide|omega)) hr (zB (yV (zB (zY zg (zY za (pv 0) (zY zg (pv 3) zG (fun _ _=>rfl)) (fun _ _=>rfl)) zG (fun _ _=>rfl)) (zB (zY zg (zY za (pv 1) (zY zg (pv 3) zG (fun _ _=>rfl)) (fun _ _=>rfl)) zG (fun _ _=>rfl)) zE))) zE))))),?_⟩;have ul:0<us.length:=by
  rcases Nat.eq_zero_or_pos us.length with z|z
  ·rw[z] at k1;simp at k1;omega
  ·exact z
 walk_at "wp";have ly:=hP2.1;refine⟨_,b,ys,k,rfl,hS2,by omega,by omega,fun D nD=>?_⟩;rw[ly];have g1:=zJ nD (.tup [.int (k/us.length),.int (k%us.length)]);have hD:=zH (H:=H) (a:=D) (o:=.tup [.int (k/us.length),.int (k%us.length)]);generalize upd H D (.tup [.int (k/us.length),.int (k%us.length)])=H1 at g1 hD ⊢;have q0:0<=k/(us.length:Int):=Int.ediv_nonneg k0 (by omega);have q1:k/(us.length:Int)<ws.length:=Int.ediv_lt_of_lt_mul (by omega) k1;have r0:=u4g k (show (us.length:Int)≠0 by omega);have r1:=u4Y k (show (0:Int)<us.length by omega);refine pA fun Gs gU=>?_;obtain⟨p1,t1,e1,f1,m1,z1⟩:=(hP.same g1).ix q0 q1;refine gU ?_;refine pA fun Gu gW=>?_;obtain⟨p2,t2,e2,f2,m2,z2⟩:=(hP2.same g1).ix r0 r1;refine gW ?_;refine⟨D,_,_,_,rfl,rfl,SqT.of hD,ze (j:=0) rfl,zc (g1.seq hS) e1 ⟨p1,_,_,_,rfl,rfl,SqT.of z1,ze (j:=0) rfl,D,_,_,_,rfl,rfl,SqT.of hD,ze (j:=1) rfl,zc (g1.seq hS2) e2 ⟨p2,_,_,_,rfl,rfl,SqT.of z2,ze (j:=0) rfl,fun L nL=>?_⟩⟩⟩;refine⟨L,[t1.1,t2.1],rfl,SqL.of zH,by simp,fun z hz=>?_,?_⟩
 ·simp only [u3w,u4B,or_false] at hz;rcases hz with rfl|rfl
  ·exact hw t1 m1
  ·exact hu t2 m2
 ·have:=q _ (g1.trans (zJ nL (.lst [.int t1.1,.int t2.1])));unfold prd at this;rw[u4M,f1,u4M,f2] at this;exact this
noncomputable def y6c (P:Program) (w:World) (K:u3q) (mg:Str->Option Value) (base:Heap) (k:Nat) (x:Str) (ps:List Str) (sp:Sp):Prop:=
 ∃f fd,FnOk P w K mg base (CXx P w) k f fd ps sp/\(∀us:List Value,us.length=ps.length->bindArgs fd ⟨us,[]⟩=pure (ps.zip us))/\u5L K (.ref f)=true/\mg x=some (.ref f)/\∃oc od osl,K.lookup f=some ⟨oc,od,.func fd,osl⟩
theorem y3y {x:Str} {st:Stmt} {N ps:List Str} {k:Nat} {sp:Sp} (T:TF K mg x st) (S:FnScope N ps (zK st))
  (hb:∀(kV doc pm:Value) (an:Option Addr) (cdv ct:Value) (us:List Value),us.length=ps.length->bindArgs (u6F x x (xz st) (yb st) (zK st) .none kV doc pm an cdv ct) ⟨us,[]⟩=pure (ps.zip us))
  (len:∀vs H Q E,sp vs H Q E->vs.length=ps.length)
  (hbody:∀(f:Addr) (cdv:Value) (A:Around) (outer:List Env) (s:Shared) (H:Hp) (vs:List V) (Q:VK) (E:XK),Room k (A.deeper (PyProof.Rows.envOfC x (zK st) s.heap.objs.size f cdv))->sp vs H Q E->
   ∃t,PSs (z1G (CXx P w) P w K mg base N x (zK st) f cdv A outer s H E) (yb st) t/\t { nx:=fun _ H'=>Q .non H',rt:=Q } (L2.j8 N vs) H):y6c P w K mg base (k+1) x ps sp:=by
 refine pA fun Gv gX=>?_;obtain⟨f,fd,F,m⟩:=T;refine gX ?_;refine pA fun Gw gZ=>?_;obtain⟨oc,od,kV,doc,pm,an,cdv,ct,osl,rfl,lk,hcd⟩:=F.ex;refine gZ ?_;exact⟨f,_,y3D lk hcd S len fun A outer s H vs Q E hr hsp=>hbody f cdv A outer s H vs Q E hr hsp,hb kV doc pm an cdv ct,F.kp,m,oc,od,osl,lk⟩
theorem y3j {k:Nat} {x:Str} {ps:List Str} {sp:Sp} (h:y6c P w K mg base k x ps sp):HasX P w K mg base k x ps sp:=
 let ⟨f,fd,F,hb,hk,hm,_⟩:=h
 ⟨f,fd,F,hb,hk,hm⟩
theorem z8m {k:Nat} {x:Str} {ps:List Str} {sp sp':Sp} (h:y6c P w K mg base k x ps sp) (i:∀vs H Q E,sp' vs H Q E->sp vs H Q fun _ _ _=>False):Has P w K mg base k x ps sp':=by
 refine pA fun Gx fA=>?_;obtain⟨f,fd,F,hb,hk,hm,hl⟩:=h;refine fA ?_;refine⟨f,fd,⟨fun vs H Q E z=>F.len vs H Q _ (i vs H Q E z),fun A outer s H args us vs Q E hr e0 hbt hv z=>PySem.codeAny_mono (F.run A outer s H args us vs Q _ hr e0 hbt hv (i vs H Q E z)) fun r s' hq=>?_⟩,hb,hk,hm,hl⟩;cases r with
 | error e=>
  refine pA fun Gy fB=>?_;obtain⟨_,_,_,_,_,_,_,_,_,z⟩:=hq;refine fB ?_;exact z.elim
 | ok fl=>cases fl <;> exact hq
noncomputable def xi (K:u3q) (C:Addr) (d:Nat):Sp:=fun vs H Q E=>∃(a b:Addr) (v:V) (xs ys:List V) (ws us:List T3) (p:Pap),vs=[.ref a,.ref b,v]/\SqL K H a xs/\Pl H xs ws/\SqL K H b ys/\Pl H ys us/\(∀u∈ws,Wk u/\u.1<=2^1000)/\(∀u∈us,Wk u/\u.1<=2^1000)/\ws.length<=7/\us.length<=7/\PapIn K z3w H v p/\p.dep<d/\p.kn<=2000/\(yB (shs ws us) 1 0 p=true->∀M H',Same H H'->IsMx (prd ws us) p.nm M->Q (.int M) H')/\(yB (shs ws us) 1 0 p=false->∀x H',Same H H'->H' x=none->E (.ref C) (some x) H')
theorem z3Z {d:Nat} {u0E:Addr} {bm:List Value} (T:TF K mg "paper_wait" jq) (u3E:mg "max" = none) (u3F:mg "set" = none) (u1g:mg "sorted" = none) (u0N:OX K mg "NoPaper" u0E bm) (u0i:Has P w K mg base (d+5) "lets_meet" ["one", "other", "paper"] (yo K d)) (u1D:Has P w K mg base (d+1) "paper_names" ["paper"] (z7H K d)) (u2U:Has P w K mg base 3 "pair_round" ["one", "other", "k"] (kQ K)):y6c P w K mg base (d+6) "paper_wait" ["one", "other", "paper"] (xi K u0E d):=by
 refine y3y T z2o (fun _ _ _ _ _ _=>L2.bnd3 fun _ _ _=>rfl) (fun vs H Q E h=>?_) (fun f cdv A outer s H vs Q E hr h=>?_)
 ·refine pA fun Gz fE=>?_;obtain⟨a,b,v,xs,ys,ws,us,p,rfl,_⟩:=h;refine fE ?_;rfl
 refine pA fun Ga hU=>?_;obtain⟨a,b,v,xs,ys,ws,us,p,rfl,hS,hP,hS2,hP2,hw,hu,lw,lu,hv,hd,hk,q,qx⟩:=h;refine hU ?_;refine⟨_,(zC (zh (xb (yE (zS (u0i.mono (by first|decide|omega)) hr (zB (pv 0) (zB (pv 1) (zB (pv 2) zE)))) (fun _=>rfl))) (zF (jV u0N rfl vz (zB zM zE))) zP) (zF (zL (zf (y1U rfl) rfl u3E (by decide +kernel) (zB (yz (CompSc.capt (own:=["k"]) (capt:=["other", "one"]) (fr:=[1,0]) rfl ⟨rfl,rfl,rfl,rfl,rfl,⟨rfl,rfl,rfl,rfl,rfl,trivial⟩⟩ (by decide +kernel) (by decide +kernel) rfl (by decide +kernel)) rfl (yQ (zf (z5b rfl) rfl u1g (by decide +kernel) (zB (zZ (y1S rfl) rfl u3F (by decide +kernel) (zB (zS (u1D.mono (by first|decide|omega)) hr (zB (pv 2) zE)) zE)) zE))) (fun _ _ _=>(zd (i:=0) (show (["k", "other", "one"]:List Str).Nodup from by decide +kernel) rfl (Or.inl rfl) (Or.inr rfl))) (fun _ _ _=>yx) (fun _ _ _=>(zS (u2U.mono (by first|decide|omega)) hr (zB (pv 2) (zB (pv 1) (zB (pv 0) zE)))))) zE))))),?_⟩;walk_at "wp";refine⟨a,b,v,xs,ys,ws,us,p,rfl,hS,hP,hS2,hP2,fun u h=>(hw u h).1,fun u h=>(hu u h).1,by omega,by omega,hv,hd,fun H1 g1=>?_⟩;have lm:=Nat.mul_le_mul lw lu;cases hr2:yB (shs ws us) 1 0 p with
 | true=>
  have q:=q hr2;walk_at "wp";refine⟨v,p,rfl,hv.mono g1,hd,by omega,fun L H2 g2 nL hL=>?_⟩;have nl:=p.nm_len;have G2:=g1.trans g2;have rn:=z4a hr2;rw[wH] at rn;refine⟨L,p.nm,rfl,SqL.of hL,by omega,fun S f1 n nS hn hf=>?_⟩;have hn:=hn _ rn.1;generalize (z1G (CXx P w) P w K mg base _ _ _ f cdv A outer s H E).prog=Pr;generalize (z1G (CXx P w) P w K mg base _ _ _ f cdv A outer s H E).w=Wo;refine⟨S,f1,n,rfl,zH,by omega,fun D ns nD hl hm _=>?_⟩;have G3:=(G2.trans (zJ nS (y5N Pr Wo S f1 n))).trans (zJ nD (.lst (ns.map V.int)));have hD:=zH (H:=upd H2 S (y5N Pr Wo S f1 n)) (a:=D) (o:=.lst (ns.map V.int));generalize upd (upd H2 S (y5N Pr Wo S f1 n)) D (.lst (ns.map V.int))=H3 at G3 hD ⊢;have hns:∀k,k∈ns ↔ k∈p.nm:=fun k=>(hm k).symm.trans (hf k);have nsl:ns.length<=64:=by omega
  refine⟨⟨_,SqL.of hD⟩,?_⟩;obtain⟨Sv,hSv⟩:∃Sv:St->Prop,Sv=fun σ=>∃o1,σ=[o1,some (.ref b),some (.ref a)]:=⟨_,rfl⟩
  obtain⟨Pv,hPv⟩:∃Pv:Addr->Nat->List V->Hp->Prop,Pv=fun D2 i ys H4=>H3 D2=none/\Same H3 H4/\ys=((ns.take i).map (prd ws us)).map V.int:=⟨_,rfl⟩
  refine yR (xs:=ns.map V.int) Sv Pv (by rw[hSv];exact⟨none,rfl⟩) (fun D2 hD2=>?_) (fun D2 i ys H4 hD2 h=>?_) (fun D2 i x ys σ H4 hx hi hs hD2 hy h=>?_) (fun D2 ys H4 hD2 h=>?_)
  ·rw[hPv];exact⟨hD2,zJ hD2 _,rfl⟩
  ·rw[hPv] at h;exact SqL.of (h.2.1 _ _ hD)
  ·rw[hSv] at hs;rw[hPv] at h;obtain⟨o1,rfl⟩:=hs;refine pA fun Gb hV=>?_;obtain⟨nD2,g,rfl⟩:=h;refine hV ?_;rw[u4T] at hx;refine pA fun Gc gB=>?_;obtain⟨k,hn,rfl⟩:=u4e.mp hx;refine gB ?_;rw[u3z] at hi;have kb:=rn.1 k ((hns k).mp (u4F hn));have G:=G3.trans g;walk_at "wp";refine⟨a,b,xs,_,ws,us,k,rfl,G.seq hS,hP.same G,G.seq hS2,hP2.same G,fun u h=>⟨(hw u h).1.1,(hw u h).2⟩,fun u h=>⟨(hu u h).1.1,(hu u h).2⟩,by omega,kb.1,by rw[←Int.natCast_mul];exact kb.2,fun H5 g5=>?_⟩;have hD3:=g5 _ _ hD2;refine CompP.mk hD3 hy (by rw[u4Q];omega) (by rw[hSv];exact⟨_,rfl⟩) (by
    rw[hPv];refine⟨nD2,(g.trans g5).write nD2 _,?_⟩;rw[u4N,hn];simp)
  ·rw[hPv] at h;refine pA fun Gd gC=>?_;obtain⟨nD2,g,rfl⟩:=h;refine gC ?_;rw[u3z,u4b] at hD2;have nne:ns≠[]:=fun e=>by
    obtain⟨k,hk⟩:=List.exists_mem_of_ne_nil _ rn.2;have:=(hns k).mpr hk;rw[e] at this;exact nomatch this
   refine⟨D2,ns.map (prd ws us),rfl,SqL.of hD2,by simpa using nne,fun M hM1 hM2=>q M _ (G3.trans g) ⟨?_,fun k hk=>hM2 _ (u4l.mpr ⟨k,(hns k).mpr hk,rfl⟩)⟩⟩;refine pA fun Ge gE=>?_;obtain⟨k,hk,rfl⟩:=u4l.mp hM1;refine gE ?_;exact⟨k,(hns k).mp hk,rfl⟩
 | false=>
  walk_at "wp";exact⟨by decide,fun x hx=>qx hr2 x H1 g1 hx⟩
noncomputable def shW (by_:Int) (u:T3):T3:=(u.1,(u.2.1+by_)%u.1,u.2.2)
noncomputable def z1d (K:u3q):Sp:=fun vs H Q _=>∃(a:Addr) (b:Int) (xs:List V) (ws:List T3),vs=[.ref a,.int b]/\SqL K H a xs/\Pl H xs ws/\(∀u∈ws,1<=u.1)/\ws.length<=1000/\∀(D:Addr) (ys:List V) (H':Hp),Same H H'->H D=none->H' D=some (.lst ys)->Pl H' ys (ws.map (shW b))->Q (.ref D) H'
theorem y0f (T:TF K mg "shifted" z0P):Has P w K mg base 1 "shifted" ["plan", "by"] (z1d K):=by
 refine T.has z8T (fun _ _ _ _ _ _=>L2.bnd2 fun _ _=>rfl) (fun vs H Q E h=>?_) (fun f cdv A outer s H vs Q E hr h=>?_)
 ·refine pA fun Gf gG=>?_;obtain⟨a,b,xs,ws,rfl,_⟩:=h;refine gG ?_;rfl
 refine pA fun Gg gH=>?_;obtain⟨a,b,xs,ws,rfl,hS,hP,hw,hlen,q⟩:=h;refine gH ?_;refine⟨_,(zF (zL (yz (CompSc.capt (own:=["period", "first", "length"]) (capt:=["by"]) (fr:=[1]) rfl ⟨rfl,rfl,rfl,rfl,rfl,trivial⟩ (by decide +kernel) (by decide +kernel) rfl (by decide +kernel)) rfl (yQ (pv 0)) (fun _ _ _=>(show PG _ _ (y6y K 3 (z5Q (qf 0) (z5Q (qf 1) (z5Q (qf 2) y6Z)))) from vD (n:=3) rfl (zq (zd (i:=0) (show (["period", "first", "length", "by"]:List Str).Nodup from by decide +kernel) rfl (Or.inl rfl) (Or.inr rfl)) (zq (zd (i:=1) (show (["period", "first", "length", "by"]:List Str).Nodup from by decide +kernel) rfl (Or.inl rfl) (Or.inr rfl)) (zq (zd (i:=2) (show (["period", "first", "length", "by"]:List Str).Nodup from by decide +kernel) rfl (Or.inl rfl) (Or.inr rfl)) jW))))) (fun _ _ _=>yx) (fun _ _ _=>(yF (zB (pv 0) (zB (zN zi (zN xI (pv 1) (pv 3)) (pv 0)) (zB (pv 2) zE)))))))),?_⟩;walk_at "wp";refine⟨⟨_,hS⟩,?_⟩;obtain⟨Sv,hSv⟩:∃Sv:St->Prop,Sv=fun σ=>∃o1 o2 o3,σ=[o1,o2,o3,some (.int b)]:=⟨_,rfl⟩
 obtain⟨Pv,hPv⟩:∃Pv:Addr->Nat->List V->Hp->Prop,Pv=fun D i ys H2=>H D=none/\Same H H2/\Pl H2 ys ((ws.take i).map (shW b)):=⟨_,rfl⟩
 refine yR (xs:=xs) Sv Pv (by rw[hSv];exact⟨none,none,none,rfl⟩) (fun D hD=>?_) (fun D i ys H2 hD h=>?_) (fun D i x ys σ H2 hx hi hs hD hy h=>?_) (fun D ys H2 hD h=>?_)
 ·rw[hPv];exact⟨hD,zJ hD _,.nil⟩
 ·rw[hPv] at h;exact h.2.1.seq hS
 ·rw[hSv] at hs;rw[hPv] at h;refine pA fun Gh gI=>?_;obtain⟨o1,o2,o3,rfl⟩:=hs;refine gI ?_;refine pA fun Gi gJ=>?_;obtain⟨nD,g,hQ⟩:=h;refine gJ ?_;refine pA fun Gj gK=>?_;obtain⟨p,u,e1,rfl,e3⟩:=hP.at hx;refine gK ?_;have u1:=hw u (u4F e1);rw[hP.1] at hi;refine⟨p,_,rfl,SqT.of (g _ _ e3),rfl,?_⟩;walk_at "wp";refine⟨by omega,fun t ht=>?_⟩;have gt:=zJ ht (wA (shW b u));have hD3:=gt _ _ hD;refine CompP.mk hD3 hy (by rw[u4Q];omega) (by rw[hSv];exact⟨_,_,_,rfl⟩) (by
   rw[hPv];refine⟨nD,(g.trans gt).write nD _,?_⟩;rw[u4N,e1,List.map_append];exact ((hQ.same gt).snoc zH).upd hD3)
 ·rw[hPv] at h;refine pA fun Gk gL=>?_;obtain⟨nD,g,hQ⟩:=h;refine gL ?_;rw[hP.1,u4b] at hQ;exact q D ys H2 g nD hD hQ
noncomputable def jI:Sp:=fun vs H Q _=>∃n b:Int,vs=[.int n,.int b]/\0<b/\b<2^1000/\Q (.int (qJ n b)) H
theorem z5M (T:TF K mg "divided_up" jy):Has P w K mg base 1 "divided_up" ["number", "by"] jI:=by
 refine T.has z2q (fun _ _ _ _ _ _=>L2.bnd2 fun _ _=>rfl) (fun vs H Q E h=>?_) (fun f cdv A outer s H vs Q E hr h=>?_)
 ·refine pA fun Gm gM=>?_;obtain⟨a,b,rfl,_⟩:=h;refine gM ?_;rfl
 refine pA fun Gn gN=>?_;obtain⟨a,b,rfl,hb,hb2,q⟩:=h;refine gN ?_;refine⟨_,(zF (zL (y2Q z6l (zN zk (y2Q z6l (pv 0)) (pv 1))))),?_⟩;walk_at "wp";exact⟨z7x 1000 hb (by omega) (by decide),q⟩
noncomputable def Tups (H:Hp) (xs:List V) (lv:List T3):Prop:=xs.length=lv.length/\∀(i:Nat) t,lv[i]?=some t->∃p,xs[i]?=some (.ref p)/\H p=some (.tup [.int t.1,.int t.2.1,.int t.2.2])
noncomputable def z1l (K:u3q):Sp:=fun vs H Q _=>∃(L:Addr) (xs:List V) (lv:List T3) (h:Int),vs=[.ref L,.int h]/\SqL K H L xs/\Tups H xs lv/\(∀t∈lv,0<t.2.1/\t.2.1<2^1000/\0<=t.1/\t.1<2^1000)/\
 (∀i:Nat,0<=z1a (lv.drop i) h/\z1a (lv.drop i) h<2^1000)/\Q (.int (z1a lv h)) H
theorem y0q (T:TF K mg "climbed" z0Z) (u1U:mg "reversed" = none) (u1K:Has P w K mg base 1 "divided_up" ["number", "by"] jI):Has P w K mg base 2 "climbed" ["levels", "hit"] (z1l K):=by
 refine T.has jB (fun _ _ _ _ _ _=>L2.bnd2 fun _ _=>rfl) (fun vs H Q E h=>?_) (fun f cdv A outer s H vs Q E hr h=>?_)
 ·refine pA fun Go gO=>?_;obtain⟨a,xs,lv,b,rfl,_⟩:=h;refine gO ?_;rfl
 refine pA fun Gp gP=>?_;obtain⟨L,xs,lv,h,rfl,hS,⟨hl,ht⟩,hb,hc,q⟩:=h;refine gP ?_;refine⟨_,(zC (xR u4p rfl (y5v rfl u1U (pv 0)) (vD rfl (zq (zd (i:=2) jB.nd rfl (Or.inl rfl)) (zq (zd (i:=3) jB.nd rfl (Or.inl rfl)) (zq (zd (i:=4) jB.nd rfl (Or.inl rfl)) jW)))) (zF (zQ (i:=1) jB.nd rfl (Or.inl rfl) (zS (u1K.mono (by first|decide|omega)) hr (zB (zN xI (zN xy (pv 2) (pv 1)) (pv 4)) (zB (pv 3) zE)))))) (zF (zL (pv 1)))),?_⟩;walk_at "wp";refine⟨L,xs,rfl,hS,?_⟩;obtain⟨W,hW⟩:∃W:Nat->St->Hp->Prop,W=fun i σ H'=>∃o1 o2 o3:Option V,σ=[some (.ref L),some (.int (z1a (lv.drop (lv.length-i)) h)),o1,o2,o3]/\H'=H:=⟨_,rfl⟩
 refine y3C W ?_ (fun i σ H' _ z=>?_) (fun i x σ H' hi hx z=>?_) (fun σ H' z=>?_)
 ·rw[hW];exact⟨none,none,none,by rw[Nat.sub_zero,List.drop_length];rfl,rfl⟩
 ·rw[hW] at z;refine pA fun Gq gQ=>?_;obtain⟨_,_,_,_,rfl⟩:=z;refine gQ ?_;exact hS
 ·rw[hW] at z;refine pA fun Gr gR=>?_;obtain⟨o1,o2,o3,rfl,rfl⟩:=z;refine gR ?_;rw[hl] at hi hx;have hk:lv.length-1-i<lv.length:=by omega
  refine pA fun Gs gU=>?_;obtain⟨p,hp,hT⟩:=ht (lv.length-1-i) lv[lv.length-1-i] (u4A hk);refine gU ?_;rw[hx] at hp;cases hp;have ed:lv.drop (lv.length-(i+1))=lv[lv.length-1-i]::lv.drop (lv.length-i):=by
   have e1:lv.length-(i+1)=lv.length-1-i:=by omega
   have e2:lv.length-i=lv.length-1-i+1:=by omega
   rw[e1,e2];exact u6C hk
  have bt:=hb _ (u5T hk);have bc:=hc (lv.length-i);generalize lv[lv.length-1-i]=t at hT ed bt;refine⟨p,_,rfl,SqT.of hT,rfl,?_⟩;walk_at "wp";refine⟨mok 1000 1000 (by omega) (by omega) (by decide),_,_,rfl,bt.1,bt.2.1,?_⟩;rw[hW];exact⟨_,_,_,by rw[ed];rfl,rfl⟩
 ·rw[hW] at z;refine pA fun Gu gW=>?_;obtain⟨o1,o2,o3,rfl,rfl⟩:=z;refine gW ?_;walk_at "wp";rw[hl,Nat.sub_self,List.drop_zero];exact q
theorem Tups.snoc {H:Hp} {xs:List V} {lv:List T3} {L p:Addr} {ys:List V} {t:T3} (h:Tups H xs lv) (hL:H L=some (.lst ys)) (hp:H p=none) (zs:List V) :
  Tups (upd (upd H p (.tup [.int t.1,.int t.2.1,.int t.2.2])) L (.lst zs)) (xs++[.ref p]) (lv++[t]):=by
 have pL:p≠L:=fun e=>by rw[e,hL] at hp;cases hp
 refine⟨by simp [h.1],fun i u e=>?_⟩;by_cases c:i<lv.length
 ·rw[u4k c] at e;refine pA fun Gv gX=>?_;obtain⟨b,e1,e2⟩:=h.2 i u e;refine gX ?_;have bL:b≠L:=xV e2 hL (by intro z;cases z);have bp:b≠p:=zW e2 hp;refine⟨b,by rw[u4k (by rw[h.1];exact c)];exact e1,?_⟩;rw[zb bL,zb bp];exact e2
 ·rw[u4f (by omega)] at e;have:i-lv.length=0:=by
   rcases Nat.eq_zero_or_pos (i-lv.length) with z|z
   ·exact z
   ·rw[u6I (by simp;omega)] at e;cases e
  rw[this] at e;cases e;refine⟨p,by rw[u4f (by rw[h.1];omega),h.1,this];rfl,?_⟩;rw[zb pL,zH]
noncomputable def wx:Sp:=fun vs H Q _=>∃st sp w n:Int,vs=[.int st,.int sp,.int w,.int n]/\0<w/\w<2^1000/\1<=n/\∀H',Same H H'->Q (oV (yY st sp w n)) H'
theorem z6a (T:TF K mg "first_hit" kC) (u1K:Has P w K mg base 1 "divided_up" ["number", "by"] jI) (u3X:Has P w K mg base 2 "climbed" ["levels", "hit"] (z1l K)) :
  Has P w K mg base 3 "first_hit" ["start", "step", "whole", "many"] wx:=by
 refine T.has yD (fun _ _ _ _ _ _=>L2.bnd4 fun _ _ _ _=>rfl) (fun vs H Q E h=>?_) (fun f cdv A outer s H vs Q E hr h=>?_)
 ·refine pA fun Gw gZ=>?_;obtain⟨a,b,c,d,rfl,_⟩:=h;refine gZ ?_;rfl
 refine pA fun Gx fA=>?_;obtain⟨st,sp,w,n,rfl,hw,hw2,hn,q⟩:=h;refine fA ?_;refine⟨_,(zC (zh (zR wV (zN zi (pv 0) (pv 2)) (pv 3) (zV _)) (zF (zL zG)) zP) (zC (zQ (i:=1) yD.nd rfl (Or.inl rfl) (zN zi (pv 1) (pv 2))) (zC (zQ (i:=4) yD.nd rfl (Or.inl rfl) (zN zi (y2Q z6l (pv 0)) (pv 2))) (zC (zQ (i:=5) yD.nd rfl (Or.inl rfl) (yV zE)) (zC (kY u4p (zR z4k (pv 1) zG (zV _)) (zC (zQ (i:=6) yD.nd rfl (Or.inl rfl) (zN xl (zN xI (pv 4) (pv 3)) zG)) (zC (zQ (i:=7) yD.nd rfl (Or.inl rfl) (zS (u1K.mono (by first|decide|omega)) hr (zB (pv 4) (zB (pv 1) zE)))) (zC (zh (zR z4l (zN xy (pv 1) (pv 7)) (pv 6) (zV _)) (zF (zL (zS (u3X.mono (by first|decide|omega)) hr (zB (pv 5) (zB (pv 7) zE))))) zP) (zC (yy (xx u4v u5P u5Q yu (pv 5) (zB (yF (zB (pv 2) (zB (pv 1) (zB (pv 4) zE)))) zE))) (zC (zQ (i:=4) yD.nd rfl (Or.inl rfl) (zN zi (y2Q z6l (pv 6)) (pv 1))) (zC (zQ (i:=8) yD.nd rfl (Or.inl rfl) (zN zi (pv 2) (pv 1))) (zC (zQ (i:=2) yD.nd rfl (Or.inl rfl) (pv 1)) (zF (zQ (i:=1) yD.nd rfl (Or.inl rfl) (pv 8))))))))))) (zF (zL yI))))))),?_⟩;walk_at "wp";refine⟨hw,fun c=>?_,fun c=>?_⟩
 ·have e:yY st sp w n=some 0:=by unfold yY;rw[if_pos c]
  have:=q H (Same.refl H);rw[e] at this;exact this
 have L0:=y7T (sp:=sp) hw hn c;have ef:yY st sp w n=z3U w (sp%w) ((-st)%w) n:=by unfold yY;rw[if_neg c]
 rw[ef] at q;refine⟨hw,hw,fun L hL=>?_⟩;obtain⟨W,hW⟩:∃W:Nat->St->Hp->Prop,W=fun m σ H'=>∃(lv:List T3) (w' a lo:Int) (xs:List V) (o1 o2 o3:Option V),σ=[some (.int st),some (.int a),some (.int w'),some (.int n),some (.int lo),some (.ref L),o1,o2,o3]/\Same H H'/\H' L=some (.lst xs)/\Tups H' xs lv/\
  Down n w (sp%w) ((-st)%w) lv w' a lo/\m=a.toNat:=⟨_,rfl⟩
 refine⟨W,⟨(sp%w).toNat,by rw[hW];exact⟨[],w,sp%w,(-st)%w,[],none,none,none,rfl,zJ hL _,zH,⟨rfl,fun i t e=>by simp at e⟩,.top,rfl⟩⟩,fun m σ H' z=>?_⟩;rw[hW] at z;refine pA fun Gy fB=>?_;obtain⟨lv,w',a,lo,xs,o1,o2,o3,rfl,g,hx,ht,dn,rfl⟩:=z;refine fB ?_;refine pA fun Gz fE=>?_;obtain⟨lv1,b1,b2⟩:=dn.lvl L0;refine fE ?_;have aw:=lv1.aw;have a0:=lv1.a0;walk_at "wp";refine⟨fun c1=>?_,fun c1=>?_⟩
 ·have ap:0<a:=by omega
  have sh:=dn.short L0 1000 (by omega) ap;have c2:=jE (n:=lo) ap;have l1:=lv1.l1;have l2:=lv1.l2;have c0:=kI (n:=lo) ap (by omega);have cl:qJ lo a<=lo:=z1J ap (by
   have:=u6H (show 1<=a by omega) (show 0<=lo by omega);omega)
  refine⟨_,fun _ _ h=>h,?_⟩;walk_at "wp";refine⟨_,_,rfl,ap,by omega,?_⟩;walk_at "wp";refine⟨mok 1000 1000 (by omega) (by omega) (by decide),fun c3=>?_,fun c3=>?_⟩
  ·have eh:=z5C (w:=w') ap (n:=n) (by omega);obtain⟨e1,e2⟩:=dn.hit L0 eh;refine⟨L,xs,lv,_,rfl,SqL.of hx,ht,fun t htm=>?_,fun i=>?_,?_⟩
   ·refine pA fun Ga hU=>?_;obtain⟨t1,t2,t3,t4,t5⟩:=b2 t htm;refine hU ?_;exact⟨t1,by omega,by omega,by omega⟩
   ·have:=e2 i;omega
   ·have:=q H' g;rw[e1] at this;exact this
  ·refine⟨.inl ⟨rfl,_,SqL.of hx⟩,fun p hp=>?_⟩;have pL:L≠p:=zW hx hp;refine⟨_,_,_,rfl,rfl,by rw[zb pL];exact hx,by rw[ht.1,u4Q];omega,?_⟩;walk_at "wp";have c3':¬a*qJ lo a<=lo+n-1:=by omega
   have r0:=u4g w' (show a≠0 by omega);have r1:=u4Y w' ap;refine⟨ap,ap,(w'%a).toNat,by omega,?_⟩;rw[hW];refine⟨lv++[(w',a,lo)],a,w'%a,_,_,_,_,_,rfl,?_,zH,ht.snoc hx hp _,dn.go ap c3',rfl⟩;exact fun b u e=>by
    have b1:b≠L:=zW e hL;have b2:b≠p:=zW (g b u e) hp;rw[zb b1,zb b2];exact g b u e
 ·have a00:a=0:=by omega
  have e1:=dn.nohit (z5B (by omega));have:=q H' g;rw[e1] at this;exact this
theorem z2I {ws:List T3} {t:Int}:yf ws t=true ↔ ∃u∈ws,awP u t:=by
 unfold yf;rw[u6P];refine⟨fun⟨u,h,e⟩=>⟨u,h,by unfold awk at e;exact (of_decide_eq_true e:(t-u.2.1)%u.1<u.2.2)⟩,fun⟨u,h,e⟩=>⟨u,h,by unfold awk;exact decide_eq_true (show (t-u.2.1)%u.1<u.2.2 from e)⟩⟩
noncomputable def y6X (ws us:List T3) (d t:Int):Bool:=yf ws t && yf us (t-d)
theorem z6o {ws us:List T3} {d t:Int}:y6X ws us d t=true ↔ z5o ws us d t:=by
 unfold y6X z5o;rw[u4a,z2I,z2I]
noncomputable def z0E (K:u3q):Sp:=fun vs H Q _=>∃(a b:Addr) (xs ys:List V) (ws us:List T3) (d t:Int),vs=[.ref a,.ref b,.int d,.int t]/\SqL K H a xs/\Pl H xs ws/\SqL K H b ys/\Pl H ys us/\(∀u∈ws,1<=u.1)/\(∀u∈us,1<=u.1)/\Q (.bl (y6X ws us d t)) H
theorem z8o (T:TF K mg "together" wK) (u1e:Has P w K mg base 1 "awake" ["plan", "turn"] (z2j K)):Has P w K mg base 2 "together" ["one", "other", "shift", "turn"] (z0E K):=by
 refine T.has z5z (fun _ _ _ _ _ _=>L2.bnd4 fun _ _ _ _=>rfl) (fun vs H Q E h=>?_) (fun f cdv A outer s H vs Q E hr h=>?_)
 ·refine pA fun Gb hV=>?_;obtain⟨a,b,xs,ys,ws,us,d,t,rfl,_⟩:=h;refine hV ?_;rfl
 refine pA fun Gc gB=>?_;obtain⟨a,b,xs,ys,ws,us,d,t,rfl,hS,hP,hS2,hP2,hw,hu,q⟩:=h;refine gB ?_;refine⟨_,(zF (zL (vE (zS (u1e.mono (by first|decide|omega)) hr (zB (pv 0) (zB (pv 3) zE))) (z0e (zS (u1e.mono (by first|decide|omega)) hr (zB (pv 1) (zB (zN xl (pv 3) (pv 2)) zE))))))),?_⟩;unfold y6X at q;walk_at "wp";refine⟨_,_,xs,ws,rfl,hS,hP,hw,?_⟩;walk_at "wp";refine⟨fun c=>?_,fun c=>?_⟩
 ·rw[c,Bool.true_and] at q;exact⟨_,_,ys,us,rfl,hS2,hP2,hu,q⟩
 ·rw[Bool.not_eq_true] at c;rw[c,Bool.false_and] at q;exact q
noncomputable def kR (K:u3q):Sp:=fun vs H Q _=>∃(p p2:Addr) (u v:T3) (t:Int),vs=[.ref p,.ref p2,.int t]/\H p=some (wA u)/\H p2=some (wA v)/\Wk u/\Wk v/\u.1<2^900/\v.1<2^900/\∀H',Same H H'->Q (oV (nbI u v t)) H'
theorem z5J (T:TF K mg "next_begin" ju) (u2h:Has P w K mg base 3 "first_hit" ["start", "step", "whole", "many"] wx):Has P w K mg base 4 "next_begin" ["waking", "beside", "turn"] (kR K):=by
 refine T.has jK (fun _ _ _ _ _ _=>L2.bnd3 fun _ _ _=>rfl) (fun vs H Q E h=>?_) (fun f cdv A outer s H vs Q E hr h=>?_)
 ·refine pA fun Gd gC=>?_;obtain⟨p,p2,u,v,t,rfl,_⟩:=h;refine gC ?_;rfl
 refine pA fun Ge gE=>?_;obtain⟨p,p2,u,v,t,rfl,hp,hp2,hu,hv,u9,v9,q⟩:=h;refine gE ?_;refine⟨_,(zC (zQ (i:=3) jK.nd rfl (Or.inl rfl) (zN xI (pv 2) (zN zi (zN xl (zY zg (pv 0) zG (fun _ _=>rfl)) (pv 2)) (zY zg (pv 0) zG (fun _ _=>rfl))))) (zC (zQ (i:=4) jK.nd rfl (Or.inl rfl) (zS (u2h.mono (by first|decide|omega)) hr (zB (zN xl (pv 3) (zY zg (pv 1) zG (fun _ _=>rfl))) (zB (zY zg (pv 0) zG (fun _ _=>rfl)) (zB (zY zg (pv 1) zG (fun _ _=>rfl)) (zB (zY zg (pv 1) zG (fun _ _=>rfl)) zE)))))) (zC (zh (zR z1z (pv 4) yI (zV _)) (zF (zL yI)) zP) (zF (zL (zN xI (pv 3) (zN xy (zY zg (pv 0) zG (fun _ _=>rfl)) (pv 4)))))))),?_⟩;have hT:SqT K H p [.int u.1,.int u.2.1,.int u.2.2]:=SqT.of hp;have hT2:SqT K H p2 [.int v.1,.int v.2.1,.int v.2.2]:=SqT.of hp2;have u0:=hu.1;have v0:=hv.1;walk_at "wp";refine⟨_,_,_,.int u.2.1,rfl,rfl,hT,rfl,?_⟩;walk_at "wp";refine⟨_,_,_,.int u.1,rfl,rfl,hT,rfl,?_⟩;walk_at "wp";refine⟨by omega,?_⟩;refine⟨_,_,_,.int v.2.1,rfl,rfl,hT2,rfl,?_⟩;walk_at "wp";refine⟨_,_,_,.int u.1,rfl,rfl,hT,rfl,?_⟩;refine⟨_,_,_,.int v.1,rfl,rfl,hT2,rfl,?_⟩;refine⟨_,_,_,.int v.2.2,rfl,rfl,hT2,rfl,?_⟩;refine⟨_,_,_,_,rfl,by omega,by omega,hv.2.2.2.1,fun H' g=>?_⟩;have q2:=q H' g;unfold nbI z5i at q2;have L:=yO (st:=t+(u.2.1-t)%u.1-v.2.1) (sp:=u.1) (w:=v.1) (n:=v.2.2) (by omega) hv.2.2.2.1;cases e:yY (t+(u.2.1-t)%u.1-v.2.1) u.1 v.1 v.2.2 with
 | none=>
  rw[e] at q2;walk_at "wp";exact q2
 | some i=>
  rw[e] at q2 L;have lt:=qI (by omega) hv.2.2.2.1 e;have le:v.1/yU v.1 (u.1%v.1)<=v.1:=Int.ediv_le_self _ (by omega);have i0:=L.1;walk_at "wp";refine⟨_,_,_,.int u.1,rfl,rfl,SqT.of (g _ _ hp),rfl,?_⟩;walk_at "wp";refine⟨mok 1000 1000 (by omega) (by omega) (by decide),?_⟩;exact q2
noncomputable def jG (K:u3q):Sp:=fun vs H Q _=>∃(a b:Addr) (xs ys:List V) (ws us:List T3) (d t:Int),vs=[.ref a,.ref b,.int d,.int t]/\SqL K H a xs/\Pl H xs ws/\SqL K H b ys/\Pl H ys us/\(∀u∈ws,Wk u)/\(∀u∈us,Wk u)/\(∀u∈ws,u.1<2^900)/\(∀u∈us,u.1<2^900)/\ws.length<=50/\us.length<=50/\
 ∀(r:Option Int) (H':Hp),Same H H'->NextOf (z5o ws us d) t r->Q (oV r) H'
theorem z9B {ws vs:List T3} {t:Int} {i:Nat} {u:T3} (e:ws[i]?=some u):qK (ws.take (i+1)) vs t=qK (ws.take i) vs t++vs.flatMap fun v=>[nbI u v t,nbI v u t]:=by
 unfold qK;rw[u4N,e,List.flatMap_append];simp
noncomputable def z1K (u:T3) (vs:List T3) (t:Int):List (Option Int):=vs.flatMap fun v=>[nbI u v t,nbI v u t]
theorem z9C {u:T3} {vs:List T3} {t:Int} {i:Nat} {v:T3} (e:vs[i]?=some v):z1K u (vs.take (i+1)) t=z1K u (vs.take i) t++[nbI u v t,nbI v u t]:=by
 unfold z1K;rw[u4N,e,List.flatMap_append];simp
theorem z5a (u:T3) (vs:List T3) (t:Int):(z1K u vs t).length=2*vs.length:=by
 unfold z1K
 induction vs with
 | nil=>rfl
 | cons v vs ih=>rw[List.flatMap_cons,u3s,ih];simp;omega
theorem z5Z (ws vs:List T3) (t:Int):(qK ws vs t).length=ws.length*(2*vs.length):=by
 induction ws with
 | nil=>unfold qK;simp
 | cons u ws ih=>
  have:=z5a u vs t;unfold qK at *
  unfold z1K at this;rw[List.flatMap_cons,u3s,ih,this,u3x,Nat.add_mul];omega
theorem z4v {os:List (Option Int)} (h:os.filterMap id=[]):z6j os none:=fun y hy=>by
 have:y∈os.filterMap id:=u5g.mpr ⟨some y,hy,rfl⟩;rw[h] at this;cases this
theorem z4u {os:List (Option Int)} {M:Int} (h:M∈os.filterMap id) (hz:∀z∈os.filterMap id,M<=z):z6j os (some M):=by
 refine pA fun Gf gG=>?_;obtain⟨o,ho,e⟩:=u5g.mp h;refine gG ?_;have e':o=some M:=e;refine⟨e'▸ho,fun y hy=>hz y (u5g.mpr ⟨some y,hy,rfl⟩)⟩
theorem z9A {K:u3q} {L:Addr} {os:List (Option Int)} {nm:Str} {fr:List Nat} {σ:St} {H:Hp} {Q:VK} {rest:St} (hst:st0 [nm] fr σ=none::rest) (hL:H L=some (.lst (os.map oV))) (hlen:os.length<=10000)
  (hq:∀(D:Addr) (H':Hp),Same H H'->H' D=some (IL (os.filterMap id))->Q (.ref D) H') :
  z1M (Itl K L) (qf 0) (y4B (tOp (fun x y H Q=>y=.non/\Q (.bl (!decide (x=.non))) H) (z6r 0) (tC .non))) (z6r 0) [nm] fr σ H Q:=by
 obtain⟨Sv,hSv⟩:∃Sv:St->Prop,Sv=fun σ=>∃o,σ=o::rest:=⟨_,rfl⟩
 obtain⟨Pv,hPv⟩:∃Pv:Addr->Nat->List V->Hp->Prop,Pv=fun D i ys H2=>H D=none/\Same H H2/\ys=((os.take i).filterMap id).map V.int:=⟨_,rfl⟩
 refine yR (xs:=os.map oV) Sv Pv (by rw[hSv,hst];exact⟨none,rfl⟩) (fun D hD=>?_) (fun D i ys H2 hD h=>?_) (fun D i x ys σ H2 hx hi hs hD hy h=>?_) (fun D ys H2 hD h=>?_)
 ·rw[hPv];exact⟨hD,zJ hD _,rfl⟩
 ·rw[hPv] at h;exact SqL.of (h.2.1 _ _ hL)
 ·rw[hSv] at hs;rw[hPv] at h;obtain⟨o,rfl⟩:=hs;refine pA fun Gg gH=>?_;obtain⟨nD,g,rfl⟩:=h;refine gH ?_;rw[u4T] at hx;refine pA fun Gh gI=>?_;obtain⟨c,hc,rfl⟩:=u4e.mp hx;refine gI ?_;rw[u3z] at hi;cases c with
  | none=>
   walk_at "wp";refine⟨by rw[hSv];exact⟨_,rfl⟩,_,hD,by omega,?_⟩;rw[hPv];refine⟨nD,g,?_⟩;rw[u4N,hc,List.filterMap_append];simp
  | some c=>
   walk_at "wp";refine CompP.mk hD hy (by rw[u4Q];omega) (by rw[hSv];exact⟨_,rfl⟩) (by
    rw[hPv];refine⟨nD,g.write nD _,?_⟩;rw[u4N,hc,List.filterMap_append];simp)
 ·rw[hPv] at h;refine pA fun Gi gJ=>?_;obtain⟨nD,g,rfl⟩:=h;refine gJ ?_;rw[u3z,u4b] at hD;exact hq D H2 g hD
theorem z1B (T:TF K mg "next_together" x6) (u1d:mg "min" = none) (u3G:Has P w K mg base 2 "together" ["one", "other", "shift", "turn"] (z0E K)) (u3Y:Has P w K mg base 1 "shifted" ["plan", "by"] (z1d K)) (u1b:Has P w K mg base 4 "next_begin" ["waking", "beside", "turn"] (kR K)) :
  Has P w K mg base 5 "next_together" ["one", "other", "shift", "turn"] (jG K):=by
 refine T.has yg (fun _ _ _ _ _ _=>L2.bnd4 fun _ _ _ _=>rfl) (fun vs H Q E h=>?_) (fun f cdv A outer s H vs Q E hr h=>?_)
 ·refine pA fun Gj gK=>?_;obtain⟨a,b,xs,ys,ws,us,d,t,rfl,_⟩:=h;refine gK ?_;rfl
 refine pA fun Gk gL=>?_;obtain⟨a,b,xs,ys,ws,us,d,t,rfl,hS,hP,hS2,hP2,hw,hu,w9,u9,lw,lu,q⟩:=h;refine gL ?_;refine⟨_,(zC (zh (yE (zS (u3G.mono (by first|decide|omega)) hr (zB (pv 0) (zB (pv 1) (zB (pv 2) (zB (pv 3) zE))))) (fun _=>rfl)) (zF (zL (pv 3))) zP) (zC (zQ (i:=4) yg.nd rfl (Or.inl rfl) (yV zE)) (zC (xR u4p rfl (yQ (pv 0)) (zd (i:=5) yg.nd rfl (Or.inl rfl)) (zF (xR u4p rfl (yQ (zS (u3Y.mono (by first|decide|omega)) hr (zB (pv 1) (zB (pv 2) zE)))) (zd (i:=6) yg.nd rfl (Or.inl rfl)) (zC (yy (xx u4v u5P u5Q yu (pv 4) (zB (zS (u1b.mono (by first|decide|omega)) hr (zB (pv 5) (zB (pv 6) (zB (pv 3) zE)))) zE))) (zF (yy (xx u4v u5P u5Q yu (pv 4) (zB (zS (u1b.mono (by first|decide|omega)) hr (zB (pv 6) (zB (pv 5) (zB (pv 3) zE)))) zE)))))))) (zF (zL (y4U rfl rfl u1d (yz (CompSc.none (own:=["found"]) (by decide +kernel) (by decide +kernel) rfl (by decide +kernel)) rfl (yQ (pv 4)) (fun _ _ _=>(zd (i:=0) (show (["found"]:List Str).Nodup from by decide +kernel) rfl (Or.inl rfl) (Or.inr rfl))) (fun _ _ _=>z9s (zR kF (pv 0) yI (zV _))) (fun _ _ _=>(pv 0))) yI)))))),?_⟩;have w1:∀u∈ws,1<=u.1:=fun u h=>(hw u h).1;have u1:∀u∈us,1<=u.1:=fun u h=>(hu u h).1;walk_at "wp";refine⟨_,_,xs,ys,ws,us,d,t,rfl,hS,hP,hS2,hP2,w1,u1,?_⟩;walk_at "wp";refine⟨fun c=>q (some t) H (Same.refl H) (y0H (z6o.mp c)),fun c=>?_⟩;have nt:¬z5o ws us d t:=fun z=>c (z6o.mpr z);intro L hL;have g0:=zJ hL (.lst []);refine⟨⟨_,g0.seq hS⟩,?_⟩;obtain⟨W,hW⟩:∃W:Nat->St->Hp->Prop,W=fun i σ H'=>∃(o1 o2:Option V),σ=[some (.ref a),some (.ref b),some (.int d),some (.int t),some (.ref L),o1,o2]/\Same H H'/\H' L=some (.lst ((qK (ws.take i) (us.map (shT d)) t).map oV)):=⟨_,rfl⟩
 refine yv (xs:=xs) W ?_ (fun i σ H' _ z=>?_) (fun i x σ H' hx z=>?_) (fun σ H' z=>?_)
 ·rw[hW];exact⟨none,none,rfl,g0,zH⟩
 ·rw[hW] at z;refine pA fun Gm gM=>?_;obtain⟨_,_,_,g,_⟩:=z;refine gM ?_;exact g.seq hS
 ·rw[hW] at z;refine pA fun Gn gN=>?_;obtain⟨o1,o2,rfl,g,hL2⟩:=z;refine gN ?_;refine pA fun Go gO=>?_;obtain⟨p,u,e1,rfl,e3⟩:=hP.at hx;refine gO ?_;have mu:=u4F e1;walk_at "wp";refine⟨_,_,ys,us,rfl,g.seq hS2,hP2.same g,u1,by omega,fun D zs H2 g2 nD hD hZ=>?_⟩;have nLD:L≠D:=fun e=>by rw[e] at hL2;rw[hL2] at nD;cases nD
  refine⟨D,rfl,⟨_,SqL.of hD⟩,?_⟩;obtain⟨Z,hZz⟩:∃Z:Nat->St->Hp->Prop,Z=fun j σ H'=>∃(o2:Option V),σ=[some (.ref a),some (.ref b),some (.int d),some (.int t),some (.ref L),some (.ref p),o2]/\Same H H'/\Pl H' zs (us.map (shT d))/\H' D=some (.lst zs)/\H' L=some (.lst ((qK (ws.take i) (us.map (shT d)) t++z1K u ((us.map (shT d)).take j) t).map oV)):=⟨_,rfl⟩
  refine yv (xs:=zs) Z ?_ (fun j σ H' _ z=>?_) (fun j x σ H' hx z=>?_) (fun σ H' z=>?_)
  ·rw[hZz];exact⟨_,rfl,g.trans g2,hZ,hD,by simpa [z1K] using g2 _ _ hL2⟩
  ·rw[hZz] at z;refine pA fun Gp gP=>?_;obtain⟨_,_,_,_,hD,_⟩:=z;refine gP ?_;exact SqL.of hD
  ·rw[hZz] at z;refine pA fun Gq gQ=>?_;obtain⟨o2,rfl,gz,hZ3,hD3,hL3⟩:=z;refine gQ ?_;refine pA fun Gr gR=>?_;obtain⟨p2,v,f1,rfl,f3⟩:=hZ3.at hx;refine gR ?_;have mv:=u4F f1;refine pA fun Gs gU=>?_;obtain⟨v0,mv0,ev⟩:=u4l.mp mv;refine gU ?_;have hv:Wk v:=ev▸z1p d (hu v0 mv0);have v9:v.1<2^900:=by rw[←ev];exact u9 v0 mv0
   have hj:=(u4K.mp f1).1;rw[u3z] at hj;have hi:=(u4K.mp e1).1;have lc:(qK (ws.take i) (us.map (shT d)) t++z1K u ((us.map (shT d)).take j) t).length<=5000:=by
    rw[u3s,z5Z,z5a,u5F,u5F,u3z];have:=Nat.mul_le_mul (show min i ws.length<=49 by omega) (show 2*us.length<=100 by omega);omega
   walk_at "wp";refine⟨.inl ⟨rfl,_,SqL.of hL3⟩,p,p2,u,v,t,rfl,gz _ _ e3,f3,hw u mu,hv,w9 u mu,v9,fun H4 g4=>?_⟩;refine⟨L,_,_,rfl,rfl,g4 _ _ hL3,by rw[u4Q,u3z];omega,?_⟩;have f3':=z2J (D:=L) (o:=.lst ((qK (ws.take i) (us.map (shT d)) t++z1K u ((us.map (shT d)).take j) t).map oV++[oV (nbI u v t)])) (g4 _ _ hL3) (g4 _ _ f3);have e3':=z2J (D:=L) (o:=.lst ((qK (ws.take i) (us.map (shT d)) t++z1K u ((us.map (shT d)).take j) t).map oV++[oV (nbI u v t)])) (g4 _ _ hL3) ((gz.trans g4) _ _ e3);refine⟨.inl ⟨rfl,_,SqL.of zH⟩,p2,p,v,u,t,rfl,f3',e3',hv,hw u mu,v9,w9 u mu,fun H5 g5=>?_⟩;refine⟨L,_,_,rfl,rfl,g5 _ _ zH,by rw[u4Q,u3s,u3z,u6G];omega,?_⟩;rw[hZz];refine⟨_,rfl,(((gz.trans g4).write hL _).trans g5).write hL _,?_,?_,?_⟩
   ·exact (((hZ3.same g4).upd (g4 _ _ hL3)).same g5).upd (g5 _ _ zH)
   ·rw[zb (Ne.symm nLD)];exact g5 _ _ ((zb (Ne.symm nLD)).trans (g4 _ _ hD3))
   ·rw[zH,z9C f1];simp
  ·rw[hZz] at z;refine pA fun Gu gW=>?_;obtain⟨o2,rfl,gz,hZ3,hD3,hL3⟩:=z;refine gW ?_;rw[hZ3.1,u4b] at hL3;rw[hW];refine⟨_,_,rfl,gz,?_⟩;rw[z9B e1];exact hL3
 ·rw[hW] at z;refine pA fun Gv gX=>?_;obtain⟨o1,o2,rfl,g,hL2⟩:=z;refine gX ?_;rw[hP.1,u4b] at hL2;have lc:(qK ws (us.map (shT d)) t).length<=5000:=by
   rw[z5Z,u3z];have:=Nat.mul_le_mul lw (show 2*us.length<=100 by omega);omega
  walk_at "wp";refine⟨⟨_,SqL.of hL2⟩,z9A (rest:=[]) rfl hL2 (by omega) fun D H2 g2 hD=>?_⟩;walk_at "wp";refine⟨D,_,rfl,SqL.of hD,fun e=>q none _ (g.trans g2) (kg hw hu nt (z4v e)),fun M hM hz=>q (some M) _ (g.trans g2) (kg hw hu nt (z4u hM hz))⟩
noncomputable def z1m (K:u3q):Sp:=fun vs H Q _=>∃(a:Addr) (ns:List Int) (k:Int),vs=[.ref a,.int k]/\SqL K H a (ns.map V.int)/\0<=k/\Q (.int (ns.getD k.toNat 0)) H
theorem z3e (T:TF K mg "_law_cell_at" jT) (u0D:mg "len" = none):Has P w K mg base 1 "_law_cell_at" ["script", "k"] (z1m K):=by
 refine T.has z1Q (fun _ _ _ _ _ _=>L2.bnd2 fun _ _=>rfl) (fun vs H Q E h=>?_) (fun f cdv A outer s H vs Q E hr h=>?_)
 ·refine pA fun Gw gZ=>?_;obtain⟨a,ns,k,rfl,_⟩:=h;refine gZ ?_;rfl
 refine pA fun Gx fA=>?_;obtain⟨a,ns,k,rfl,hS,hk,q⟩:=h;refine fA ?_;refine⟨_,(zC (zh (zR wV (pv 1) (zf zo rfl u0D u4n (zB (pv 0) zE)) (zV _)) (zF (zL (zY za (pv 0) (pv 1) (fun _ _=>rfl)))) zP) (zF (zL zG))),?_⟩;walk_at "wp";refine⟨a,_,rfl,.inl hS,?_⟩;walk_at "wp";refine⟨fun c=>?_,fun c=>?_⟩
 ·rw[u3z] at c;exact zc hS (z8G hk c) q
 ·rw[u3z] at c;have e:ns.getD k.toNat 0=0:=by
   rw[u4M,u6I (by omega)];rfl
  rw[e] at q;exact q
noncomputable def dg (n:Int):List Nat:=(u3t (toString n)).cps.toList
theorem ym (n:Int):u3t (toString n)=tx (dg n):=(yn _).symm
structure DgOk (n:Int):Prop where
 all:PySem.NumText.AllDigits (dg n)
 ne:dg n≠[]
 val:((PySem.NumText.digitsVal (dg n):Nat):Int)=n
 zero:(dg n)[0]?=some 48->(dg n).length=1
 len:(dg n).length<=100
 sz:n.natAbs.log2<1920
theorem zj (l:List Nat):(tx l).cps.toList=l:=by simp [tx]
theorem zU (l:List Nat):(tx l).length=l.length:=by simp [tx,u6N]
theorem z8y {n:Int} (h0:0<=n) (h1:n<10^100):DgOk n:=by
 refine pA fun Gy fB=>?_;obtain⟨l,e,a,b,c,d,f⟩:=z7f h0;refine fB ?_;have el:dg n=l:=by
  unfold dg;rw[e,zj]
 exact⟨el▸a,el▸b,el▸c,el▸d,by rw[el];exact f 99 h1,by
  by_cases z:n.natAbs=0
  ·rw[z];decide
  ·refine (Nat.log2_lt z).mpr (u4X (m:=10^100) (by omega) (by decide +kernel))⟩
theorem xf {l:List Nat} (h:PySem.NumText.AllDigits l) {c:Nat} (hc:c<48∨57<c):c∉l:=fun m=>by
 have:=h c m;omega
theorem y1L:u3t ":" = ⟨#[58]⟩:=by decide +kernel
theorem z2H:u3t " " = ⟨#[32]⟩:=by decide +kernel
theorem z1b {l:List Nat} {ps:List (List Nat)} {c:Nat} (hc:c<256) (e:l=glu c ps) (ne:ps≠[]) (h:∀p∈ps,c∉p):Txt.split (tx l) ⟨#[c]⟩=ps.map tx:=by
 rw[z9Y _ _ hc,zj,e,z9Z ne h]
noncomputable def y0J:List Nat:=(u3t "never").cps.toList
theorem y2c:tx y0J=u3t "never" :=yn _
theorem z3i {c M:Nat}:∀ {ps:List (List Nat)},(∀p∈ps,p.length<=M)->(glu c ps).length<=ps.length*(M+1)
 | [],_=>u4q _
 | [p],h=>by
  have:=h p (by simp);simp only [glu,u6G];omega
 | p::q::r,h=>by
  have ih:=z3i (c:=c) (ps:=q::r) fun x hx=>h x (by simp [hx]);have:=h p (by simp);have e:(p::q::r).length*(M+1)=(M+1)+(q::r).length*(M+1):=by rw[u3x,Nat.add_mul];omega
  rw[e];simp only [glu,u3s,u3x] at ih ⊢;omega
theorem z4w {sep:Str} {M:Nat}:∀ {ys:List Str} (k:Nat),(∀y∈ys,y.length+sep.length<=M)->ys.foldl (· + ·.length+sep.length) k<=k+ys.length*M
 | [],k,_=>by simp
 | y::ys,k,h=>by
  have ih:=z4w (ys:=ys) (k+y.length+sep.length) fun x hx=>h x (by simp [hx]);have:=h y (by simp);rw[List.foldl_cons,u3x,Nat.add_mul];omega
theorem z3h {c:Nat} {ps:List (List Nat)}:u5q ⟨#[c]⟩ (ps.map tx)=tx (glu c ps):=by
 apply z0C;rw[y0t,zj,List.map_map];congr 1;exact (List.map_congr_left fun p _=>zj p).trans (List.map_id _)
theorem y0X {c M:Nat} {ps:List (List Nat)} (h:∀p∈ps,p.length<=M) (l:ps.length*(M+1)<=16777216):(ps.map tx).toArray.foldl (· + ·.length+(⟨#[c]⟩:Str).length) 0<=u4L/\(u5q ⟨#[c]⟩ (ps.map tx)).length<=u4L:=by
 rw[u4Q];constructor
 ·rw[List.foldl_toArray];have:=z4w (sep:=⟨#[c]⟩) (M:=M+1) (ys:=ps.map tx) 0 fun y hy=>by
   refine pA fun Gz fE=>?_;obtain⟨p,hp,rfl⟩:=u4l.mp hy;refine fE ?_;rw[zU];exact Nat.add_le_add_right (h p hp) 1
  rw[u3z] at this;omega
 ·rw[z3h,zU];exact u5I (z3i h) l
theorem z3o {K:u3q} {H:Hp}:∀ys:List Str,DDs K H (ys.map V.str) (ys.map PyData.str)
 | []=>.nil
 | y::ys=>.cons (.str y) (z3o ys)
theorem j3 {c:Nat} {Pz:Nat->Prop} (hc:Pz c):∀ {ps:List (List Nat)},(∀p∈ps,∀x∈p,Pz x)->∀x∈glu c ps,Pz x
 | [],_,x,hx=>nomatch hx
 | [p],h,x,hx=>h p (by simp) x hx
 | p::q::r,h,x,hx=>by
  rcases u4H.mp (show x∈p++c::glu c (q::r) from hx) with z|z
  ·exact h p (by simp) x z
  ·rcases u3w.mp z with rfl|z
   ·exact hc
   ·exact j3 hc (fun y hy=>h y (by simp [hy])) x z
theorem y1r {l:List Nat} (h:∀x∈l,x<128):PyData.strOk (tx l)=true:=by
 unfold PyData.strOk;rw[Array.all_eq_true_iff_forall_mem];intro x hx;have:=h x (by rw[←zj l];exact Array.mem_toList_iff.mpr hx);exact decide_eq_true (by omega)
noncomputable def y4s (c:Nat):Bool:=decide (48<=c/\c<=57)
noncomputable def z8w (l:List Nat):Bool:=decide (1<=l.length) && (decide (l.length<=100) && (!(decide (l[0]?=some 48) && decide (1<l.length)) && l.all y4s))
theorem y3F {l:List Nat}:z8w l=true ↔ 1<=l.length/\l.length<=100/\¬(l[0]?=some 48/\1<l.length)/\∀c∈l,48<=c/\c<=57:=by
 unfold z8w y4s;simp only [u4a,decide_eq_true_eq,u6B,Bool.and_eq_false_iff,decide_eq_false_iff_not,u5y];constructor
 ·rintro⟨a,b,c,d⟩;exact⟨a,b,fun z=>c.elim (fun k=>k z.1) fun k=>k z.2,d⟩
 ·rintro⟨a,b,c,d⟩;refine⟨a,b,?_,d⟩;by_cases e:l[0]?=some 48
  ·exact .inr fun k=>c ⟨e,k⟩
  ·exact .inl e
noncomputable def isW (u:T3):Bool:=decide (1<=u.1/\(0<=u.2.1/\u.2.1<u.1)/\1<=u.2.2/\u.2.2<=u.1)
noncomputable def wq:Sp:=fun vs H Q _=>∃u:T3,vs=[.int u.1,.int u.2.1,.int u.2.2]/\Q (.bl (isW u)) H
theorem z6Y (T:TF K mg "is_waking" kA):Has P w K mg base 1 "is_waking" ["period", "first", "length"] wq:=by
 refine T.has z4V (fun _ _ _ _ _ _=>L2.bnd3 fun _ _ _=>rfl) (fun vs H Q E h=>?_) (fun f cdv A outer s H vs Q E hr h=>?_)
 ·refine pA fun Ga hU=>?_;obtain⟨u,rfl,_⟩:=h;refine hU ?_;rfl
 refine pA fun Gb hV=>?_;obtain⟨u,rfl,q⟩:=h;refine hV ?_;refine⟨_,(zF (zL (vE (yt y4Z (pv 0) zG (zV _)) (vE (vb z4l wV zG (pv 1) (pv 0)) (z0e (vb z4l z4l zG (pv 2) (pv 0))))))),?_⟩;unfold isW at q;walk_at "wp";refine⟨fun c1=>⟨fun c2=>⟨fun c3=>⟨fun c4=>?_,fun c4=>?_⟩,fun c3=>?_⟩,fun c2=>?_⟩,fun c1=>?_⟩
 ·by_cases c5:u.2.2<=u.1
  ·rw[decide_eq_true ⟨c1,⟨c2,c3⟩,c4,c5⟩] at q;rw[decide_eq_true c5];exact q
  ·rw[decide_eq_false fun z=>c5 z.2.2.2] at q;rw[decide_eq_false c5];exact q
 ·rw[decide_eq_false fun z=>c4 z.2.2.1] at q;exact q
 ·rw[decide_eq_false fun z=>c3 z.2.1.2] at q;exact q
 ·rw[decide_eq_false fun z=>c2 z.2.1.1] at q;exact q
 ·rw[decide_eq_false fun z=>c1 z.1] at q;exact q
noncomputable def z1e (K:u3q):Sp:=fun vs H Q _=>∃(a:Addr) (xs:List V) (ws:List T3),vs=[.ref a]/\SqL K H a xs/\Pl H xs ws/\(∀u∈ws,isW u=true)/\∀D:Addr,H D=none->Q (.ref D) (upd H D (.lst xs))
theorem y0g (T:TF K mg "plan_of" z0Q) (u0J:mg "list" = none) (u2i:Has P w K mg base 1 "is_waking" ["period", "first", "length"] wq):Has P w K mg base 2 "plan_of" ["rows"] (z1e K):=by
 refine T.has qR (fun _ _ _ _ _ _=>L2.bnd1 fun _=>rfl) (fun vs H Q E h=>?_) (fun f cdv A outer s H vs Q E hr h=>?_)
 ·refine pA fun Gc gB=>?_;obtain⟨a,xs,ws,rfl,_⟩:=h;refine gB ?_;rfl
 refine pA fun Gd gC=>?_;obtain⟨a,xs,ws,rfl,hS,hP,hw,q⟩:=h;refine gC ?_;refine⟨_,(zC (xR u4p rfl (yQ (pv 0)) (vD rfl (zq (zd (i:=1) qR.nd rfl (Or.inl rfl)) (zq (zd (i:=2) qR.nd rfl (Or.inl rfl)) (zq (zd (i:=3) qR.nd rfl (Or.inl rfl)) jW)))) (zF (zh (xb (yE (zS (u2i.mono (by first|decide|omega)) hr (zB (pv 1) (zB (pv 2) (zB (pv 3) zE)))) (fun _=>rfl))) (zF yr) zP))) (zF (zL (zZ zn rfl u0J (by decide +kernel) (zB (pv 0) zE))))),?_⟩;walk_at "wp";refine⟨⟨_,hS⟩,?_⟩;obtain⟨W,hW⟩:∃W:Nat->St->Hp->Prop,W=fun i σ H'=>∃o1 o2 o3:Option V,σ=[some (.ref a),o1,o2,o3]/\H'=H:=⟨_,rfl⟩
 refine yv (xs:=xs) W ?_ (fun i σ H' _ z=>?_) (fun i x σ H' hx z=>?_) (fun σ H' z=>?_)
 ·rw[hW];exact⟨none,none,none,rfl,rfl⟩
 ·rw[hW] at z;refine pA fun Ge gE=>?_;obtain⟨_,_,_,_,rfl⟩:=z;refine gE ?_;exact hS
 ·rw[hW] at z;refine pA fun Gf gG=>?_;obtain⟨o1,o2,o3,rfl,rfl⟩:=z;refine gG ?_;refine pA fun Gg gH=>?_;obtain⟨p,u,e1,rfl,e3⟩:=hP.at hx;refine gH ?_;refine⟨p,_,rfl,SqT.of e3,rfl,?_⟩;walk_at "wp";refine⟨u,rfl,?_⟩;rw[hw u (u4F e1)];walk_at "wp";rw[hW];exact⟨_,_,_,rfl,rfl⟩
 ·rw[hW] at z;refine pA fun Gh gI=>?_;obtain⟨o1,o2,o3,rfl,rfl⟩:=z;refine gI ?_;walk_at "wp";exact⟨_,_,rfl,.inl hS,q⟩
noncomputable def z0I:Sp:=fun vs H Q _=>∃n:Int,vs=[.int n]/\n<2^60/\∀(b:Bool) H',Same H H'->(b=true ↔ IsPart n n)->Q (.bl b) H'
theorem z8u (T:TF K mg "is_prime" wQ) (u1J:Has P w K mg base 1 "least_part" ["number"] jH):Has P w K mg base 2 "is_prime" ["number"] z0I:=by
 refine T.has z6A (fun _ _ _ _ _ _=>L2.bnd1 fun _=>rfl) (fun vs H Q E h=>?_) (fun f cdv A outer s H vs Q E hr h=>?_)
 ·refine pA fun Gi gJ=>?_;obtain⟨n,rfl,_⟩:=h;refine gJ ?_;rfl
 refine pA fun Gj gK=>?_;obtain⟨n,rfl,n60,q⟩:=h;refine gK ?_;refine⟨_,(zF (zL (vE (yt y4Z (pv 0) zG (zV _)) (z0e (yt yX (zS (u1J.mono (by first|decide|omega)) hr (zB (pv 0) zE)) (pv 0) (zV _)))))),?_⟩;walk_at "wp";refine⟨fun c=>⟨n,rfl,c,n60,fun d H' hd g=>?_⟩,fun c=>q _ _ (Same.refl _) ⟨(fun z=>by cases z),fun z=>absurd z.two c⟩⟩;walk_at "wp";refine q _ _ g ⟨fun z=>?_,fun z=>decide_eq_true (hd.uniq z)⟩;have e:=of_decide_eq_true z;rw[e] at hd;exact hd
noncomputable def wn:Sp:=fun vs H Q _=>∃a b:Int,vs=[.int a,.int b]/\IsPart a a/\IsPart b b/\a≠b/\a<2^60/\b<2^60/\∀(D:Addr) (xs:List V) (H':Hp),Same H H'->H D=none->H' D=some (.lst xs)->Pl H' xs [(a,0,1),(b,0,1)]->Q (.ref D) H'
theorem z6S (T:TF K mg "pair_plan" qt) (u1i:Has P w K mg base 2 "is_prime" ["number"] z0I):Has P w K mg base 3 "pair_plan" ["one", "other"] wn:=by
 refine T.has z4S (fun _ _ _ _ _ _=>L2.bnd2 fun _ _=>rfl) (fun vs H Q E h=>?_) (fun f cdv A outer s H vs Q E hr h=>?_)
 ·refine pA fun Gk gL=>?_;obtain⟨a,b,rfl,_⟩:=h;refine gL ?_;rfl
 refine pA fun Gm gM=>?_;obtain⟨a,b,rfl,pa,pb,ne,a60,b60,q⟩:=h;refine gM ?_;refine⟨_,(zC (zh (PW.pt (z0a (zR yX (pv 0) (pv 1) (zV _)) (z0a (xb (yE (zS (u1i.mono (by first|decide|omega)) hr (zB (pv 0) zE)) (fun _=>rfl))) (vB (xb (yE (zS (u1i.mono (by first|decide|omega)) hr (zB (pv 1) zE)) (fun _=>rfl))))))) (zF yr) zP) (zF (zL (yV (zB (yF (zB (pv 0) (zB zG (zB zG zE)))) (zB (yF (zB (pv 1) (zB zG (zB zG zE)))) zE)))))),?_⟩;walk_at "wp";refine⟨fun c=>absurd c ne,fun _=>⟨a,rfl,a60,fun x H1 g1 hx=>?_⟩⟩;have ex:x=true:=hx.mpr pa;subst ex;walk_at "wp";refine⟨b,rfl,b60,fun y H2 g2 hy=>?_⟩;have ey:y=true:=hy.mpr pb;subst ey;walk_at "wp";intro p1 z1 p2 z2 D zD;have e1:=zJ z1 (wA (a,0,1));have e2:=zJ z2 (wA (b,0,1));have e3:=zJ zD (.lst [.ref p1,.ref p2]);exact q D [.ref p1,.ref p2] _ (((g1.trans g2).trans (e1.trans e2)).trans e3) (((g1.trans g2).trans (e1.trans e2)).free zD) zH ((Pl.one (e3 _ _ (e2 _ _ zH))).snoc (e3 _ _ zH))
noncomputable def wt:Sp:=fun vs H Q _=>∃n:Int,vs=[.int n]/\1<=n/\n<2^400/\∀(D:Addr) (xs:List V) (H':Hp),Same H H'->H D=none->H' D=some (.lst xs)->Pl H' xs [(n,0,1),(n*n,0,n)]->Q (.ref D) H'
theorem z6Z (T:TF K mg "grid_plan" kB):Has P w K mg base 1 "grid_plan" ["number"] wt:=by
 refine T.has z4W (fun _ _ _ _ _ _=>L2.bnd1 fun _=>rfl) (fun vs H Q E h=>?_) (fun f cdv A outer s H vs Q E hr h=>?_)
 ·refine pA fun Gn gN=>?_;obtain⟨n,rfl,_⟩:=h;refine gN ?_;rfl
 refine pA fun Go gO=>?_;obtain⟨n,rfl,n1,n2,q⟩:=h;refine gO ?_;refine⟨_,(zC (zh (zR wV (pv 0) zG (zV _)) (zF yr) zP) (zF (zL (yV (zB (yF (zB (pv 0) (zB zG (zB zG zE)))) (zB (yF (zB (zN xy (pv 0) (pv 0)) (zB zG (zB (pv 0) zE)))) zE)))))),?_⟩;walk_at "wp";refine⟨fun c=>by omega,fun _ p1 z1=>⟨mok 400 400 (by omega) (by omega) (by decide),fun p2 z2 D zD=>?_⟩⟩;have g1:=zJ z1 (wA (n,0,1));have g2:=zJ z2 (wA (n*n,0,n));have g3:=zJ zD (.lst [.ref p1,.ref p2]);exact q D [.ref p1,.ref p2] _ ((g1.trans g2).trans g3) ((g1.trans g2).free zD) zH ((Pl.one (g3 _ _ (g2 _ _ zH))).snoc (g3 _ _ zH))
noncomputable def TxOk (l:List Nat):Prop:=l.length<=100000/\∀c∈l,c<128
theorem TxOk.asc {l:List Nat} (h:TxOk l):Asc (tx l):=z8H.mpr h.2
theorem y6S (c:Nat):(!(u4s (u3t "0123456789") ⟨#[c]⟩ 0 (u3t "0123456789").length 1).isEmpty)=y4s c:=by
 rw[StrLaws.found_one,show (u3t "0123456789").cps.toList=u6O 48 10 by decide +kernel];unfold y4s;rw[decide_eq_decide,List.mem_range'_1];omega
theorem z9L:u3t "0" = ⟨#[48]⟩:=by decide +kernel
theorem y4F {c d:Nat}:(⟨#[c]⟩:Str)=⟨#[d]⟩ ↔ c=d:=by
 constructor
 ·intro h;injection h with h;injection h with h;simpa using h
 ·rintro rfl;rfl
noncomputable def z5n (m:Nat) (l:List Nat):Bool:=decide (1<=l.length) && (decide (l.length<=m) && (!(decide (l[0]?=some 48) && decide (1<l.length)) && l.all y4s))
noncomputable def qQ:Sp:=fun vs H Q _=>∃(l:List Nat) (m:Nat),vs=[.str (tx l),.int (m:Int)]/\TxOk l/\∀H',Same H H'->Q (.bl (z5n m l)) H'
theorem z3f (T:TF K mg "is_figures" jx) (u0D:mg "len" = none) (u1f:mg "all" = none) (u0k:CS mg "FIGURES" "0123456789"):Has P w K mg base 1 "is_figures" ["text", "most"] qQ:=by
 refine T.has z2p (fun _ _ _ _ _ _=>L2.bnd2 fun _ _=>rfl) (fun vs H Q E h=>?_) (fun f cdv A outer s H vs Q E hr h=>?_)
 ·refine pA fun Gp gP=>?_;obtain⟨l,m,rfl,_⟩:=h;refine gP ?_;rfl
 refine pA fun Gq gQ=>?_;obtain⟨l,m,rfl,hl,q⟩:=h;refine gQ ?_;refine⟨_,(zC (yP (zh (PW.pt (z0a (zR wV (zf yJ rfl u0D u4n (zB (pv 0) zE)) zG (zV _)) (vB (zR y2X (zf yJ rfl u0D u4n (zB (pv 0) zE)) (pv 1) (zV _))))) (zF (zL qe)) zP)) (zC (yP (zh (PW.pt (z4b (zR yX (zY y3g (pv 0) zG (fun _ _=>rfl)) zM (zV _)) (z0b (zR y2X (zf yJ rfl u0D u4n (zB (pv 0) zE)) zG (zV _))))) (zF (zL qe)) zP)) (zF (zL (zf (z5d rfl) rfl u1f (by decide +kernel) (zB (yz (CompSc.none (own:=["sign"]) (by decide +kernel) (by decide +kernel) rfl (by decide +kernel)) rfl (y3c (pv 0)) (fun _ _ _=>(zd (i:=0) (show (["sign"]:List Str).Nodup from by decide +kernel) rfl (Or.inl rfl) (Or.inr rfl))) (fun _ _ _=>yx) (fun _ _ _=>(yt z0i (pv 0) (y4W rfl u0k) rfl))) zE)))))),?_⟩;have ln:=hl.1;have tl:=zU l;have no:z5n m l=false->Q (.bl false) H:=fun e=>by
  have:=q H (Same.refl H);rw[e] at this;exact this
 walk_at "wp";refine⟨fun σ H'=>σ=[some (.str (tx l)),some (.int (m:Int))]/\H'=H/\1<=l.length/\l.length<=m,?_,?_⟩
 ·walk_at "wp";refine⟨_,rfl,by omega,fun c=>no (by unfold z5n;rw[decide_eq_false (by omega)];rfl),fun c=>⟨_,rfl,by omega,fun c2=>no (by unfold z5n;rw[decide_eq_false (p:=l.length<=m) (by omega)];simp),fun c2=>⟨by omega,by omega⟩⟩⟩
 rintro σ H' ⟨rfl,rfl,l1,l2⟩;walk_at "wp";refine⟨fun σ H2=>σ=[some (.str (tx l)),some (.int (m:Int))]/\H2=H'/\¬(l[0]?=some 48/\1<l.length),?_,?_⟩
 ·walk_at "wp";obtain⟨c0,r0,e0⟩:∃c r,l=c::r:=by
   cases l with
   | nil=>simp at l1
   | cons c r=>exact⟨c,r,rfl⟩
  refine⟨_,_,c0,rfl,rfl,by rw[tl];show _<=16777216;omega,by rw[zj,e0];exact ze (j:=0) rfl,rfl,_,rfl,fun z0=>⟨_,rfl,by omega,fun c=>?_,fun c=>?_⟩,fun z0=>?_⟩
  ·have z1:=V.str.inj (of_decide_eq_true z0);rw[z9L,y4F] at z1;refine no ?_;unfold z5n;rw[decide_eq_true (p:=l[0]?=some 48) (by rw[e0,z1];rfl),decide_eq_true (p:=1<l.length) (by omega)];simp
  ·exact⟨rfl,fun z=>c (by omega)⟩
  ·refine⟨rfl,fun z=>z0 (decide_eq_true ?_)⟩;have:=z.1;rw[e0] at this;have e1:c0=48:=by simpa using this
   rw[z9L,e1]
 rintro σ H2 ⟨rfl,rfl,l3⟩;walk_at "wp";refine⟨_,rfl,hl.asc,?_⟩;obtain⟨Sv,hSv⟩:∃Sv:St->Prop,Sv=fun σ=>∃o1,σ=[o1]:=⟨_,rfl⟩
 obtain⟨Pv,hPv⟩:∃Pv:Addr->Nat->List V->Hp->Prop,Pv=fun D i ys H3=>H2 D=none/\Same H2 H3/\ys=((l.take i).map y4s).map V.bl:=⟨_,rfl⟩
 refine z5V Sv Pv (by rw[hSv];exact⟨none,rfl⟩) (fun D hD=>?_) (fun D i c ys σ H3 hx hs hD hy h=>?_) (fun D ys H3 hD h=>?_)
 ·rw[hPv];exact⟨hD,zJ hD _,rfl⟩
 ·rw[hSv] at hs;rw[hPv] at h;obtain⟨o1,rfl⟩:=hs;refine pA fun Gr gR=>?_;obtain⟨nD,g,rfl⟩:=h;refine gR ?_;have hx':l[i]?=some c:=by
   rw[←zj l,u4R];exact hx
  have hi:=(u4K.mp hx').1;walk_at "wp";refine⟨_,_,rfl,rfl,?_⟩;rw[y6S];refine CompP.mk hD hy (by rw[u4Q];omega) (by rw[hSv];exact⟨_,rfl⟩) (by
   rw[hPv];refine⟨nD,g.write nD _,?_⟩;rw[u4N,hx'];simp)
 ·rw[hPv] at h;refine pA fun Gs gU=>?_;obtain⟨nD,g,rfl⟩:=h;refine gU ?_;have es:(tx l).cps.size=l.length:=tl;rw[es,u4b] at hD;refine⟨D,_,rfl,SqL.of hD,?_⟩;have ef:(l.map y4s).all id=z5n m l:=by
   unfold z5n;have n3:(decide (l[0]?=some 48) && decide (1<l.length))=false:=by
    rw[Bool.and_eq_false_iff];by_cases c:l[0]?=some 48
    ·exact .inr (decide_eq_false fun z=>l3 ⟨c,z⟩)
    ·exact .inl (decide_eq_false c)
   rw[decide_eq_true l1,decide_eq_true l2,n3,List.all_map];rfl
  rw[ef];exact q _ g
noncomputable def inL:List Nat:=[105,110,32]
noncomputable def byL:List Nat:=[98,121,32]
noncomputable def opL:List Nat:=[32,40]
noncomputable def cmL:List Nat:=[44,32]
noncomputable def clL:List Nat:=[41]
mutual
noncomputable def ptx:Pap->List Nat
 | .inn k=>inL++dg k
 | .par b ps=>byL++(dg b++(opL++(wR ps++clL)))
noncomputable def wR:List Pap->List Nat
 | []=>[]
 | p::ps=>ptx p++vC ps
noncomputable def vC:List Pap->List Nat
 | []=>[]
 | p::ps=>cmL++(ptx p++vC ps)
end
mutual
noncomputable def y0G:Pap->List Int
 | .inn k=>[k]
 | .par b ps=>b::z4m ps
noncomputable def z4m:List Pap->List Int
 | []=>[]
 | p::ps=>y0G p++z4m ps
end
noncomputable def POk (p:Pap):Prop:=∀n∈y0G p,DgOk n
noncomputable def POks (ps:List Pap):Prop:=∀n∈z4m ps,DgOk n
theorem POks.cons {p:Pap} {ps:List Pap} (h:POks (p::ps)):POk p/\POks ps:=by
 unfold POks z4m at h;exact⟨fun n hn=>h n (by simp [hn]),fun n hn=>h n (by simp [hn])⟩
theorem POk.par {b:Int} {ps:List Pap} (h:POk (.par b ps)):DgOk b/\POks ps:=by
 unfold POk y0G at h;exact⟨h b (by simp),fun n hn=>h n (by simp [hn])⟩
theorem POk.inn {k:Int} (h:POk (.inn k)):DgOk k:=h k (by simp [y0G])
theorem POks.mem:∀ {ps:List Pap},POks ps->∀p∈ps,POk p
 | _::_,h,q,hq=>by
  rcases u3w.mp hq with rfl|hq
  ·exact h.cons.1
  ·exact POks.mem h.cons.2 q hq
mutual
theorem qC:∀(p:Pap),POk p->(ptx p).length+2<=112*p.kn
 | .inn k,h=>by
  have:=h.inn.len;simp only [ptx,Pap.kn,u3s,inL,u3x,u4G];omega
 | .par b ps,h=>by
  have h1:=h.par.1.len;have h2:=z2y ps h.par.2;simp only [ptx,Pap.kn,u3s,byL,opL,clL,u3x,u4G];omega
theorem z2y:∀(ps:List Pap),POks ps->(wR ps).length<=112*Pap.kns ps
 | [],_=>by simp [wR]
 | p::ps,h=>by
  have h1:=qC p h.cons.1;have h2:=z7W ps h.cons.2;simp only [wR,Pap.kns,u3s];omega
theorem z7W:∀(ps:List Pap),POks ps->(vC ps).length<=112*Pap.kns ps
 | [],_=>by simp [vC]
 | p::ps,h=>by
  have h1:=qC p h.cons.1;have h2:=z7W ps h.cons.2;simp only [vC,Pap.kns,u3s,cmL,u3x,u4G];omega
end
theorem z4c:∀ps:List Pap,vC ps=ps.flatMap fun p=>cmL++ptx p
 | []=>rfl
 | p::ps=>by
  simp only [vC,List.flatMap_cons,z4c ps,u4m]
theorem z7q:∀ps:List Pap,u5q (tx cmL) (ps.map fun p=>tx (ptx p))=tx (wR ps)
 | []=>by
  apply z0C;simp [u5q,wR,Str.empty,tx]
 | p::ps=>by
  apply z0C;show (((ps.map fun p=>tx (ptx p)).foldl (fun acc q=>acc++(tx cmL).cps++q.cps) (tx (ptx p)).cps)).toList=_;rw[w6,zj,zj,zj];simp only [wR,z4c,List.flatMap_map,zj]
theorem y3i:u3t "in " = tx inL:=by decide +kernel
theorem y3q:u3t "by " = tx byL:=by decide +kernel
theorem y3e:u3t " (" = tx opL:=by decide +kernel
theorem y3o:u3t ", " = tx cmL:=by decide +kernel
theorem y1O:u3t ")" = tx clL:=by decide +kernel
theorem yd (k l:List Nat):tx k++tx l=tx (k++l):=by
 apply z0C;rw[y4D,zj,zj,zj]
theorem z6z (l y:List Nat) (i:Nat) (hy:y.length≠0):(decide (i+(tx y).length<=(tx l).length) && u5V (tx l) (tx y) i)=decide ((l.drop i).take y.length=y):=by
 rw[zU,zU];have e:u5V (tx l) (tx y) i=decide ((l.drop i).take y.length=y):=by
  unfold u5V;rw[u6D,decide_eq_true_eq,beq_iff_eq,←Array.toList_inj,Array.toList_extract,List.extract_eq_take_drop];have e1:i+(tx y).length-i=y.length:=by rw[zU];omega
  rw[e1];show (List.take y.length (List.drop i (tx l).cps.toList))=(tx y).cps.toList ↔ _;rw[zj,zj]
 rw[e];by_cases c:(l.drop i).take y.length=y
 ·rw[decide_eq_true c,Bool.and_true,decide_eq_true_eq];have:=congrArg List.length c;rw[u5F,u4w] at this;omega
 ·rw[decide_eq_false c,Bool.and_false]
theorem kT {l:List Nat} {i j:Nat} (h:i<=j) (hj:j<=l.length):u6e (tx l) (some (i:Int)) (some (j:Int))=tx ((l.drop i).take (j-i)):=by
 have:=beq_iff_eq.mp (PyProof.Rows.slice_closesL (x:=tx l) (i:=i) (j:=j) (by omega) (by omega) (by rw[zU];omega));rw[this,zj];have e:((j:Int)-(i:Int)).toNat=j-i:=by omega
 rw[u6Z,e];rfl
theorem y5Q {k l:List Nat}:(tx k=tx l) ↔ k=l:=by
 constructor
 ·intro h;have:(tx k).cps.toList=(tx l).cps.toList:=by rw[h]
  rwa [zj,zj] at this
 ·rintro rfl;rfl
theorem eqT {l k:List Nat} {H:Hp} {Q:VK} (q:Q (.bl (decide (l=k))) H):rEq (.str (tx l)) (.str (tx k)) H Q:=by
 refine⟨rfl,?_⟩;have:decide (V.str (tx l)=V.str (tx k))=decide (l=k):=decide_eq_decide.mpr ⟨fun h=>y5Q.mp (V.str.inj h),fun h=>by rw[h]⟩;rw[this];exact q
theorem neT {l k:List Nat} {H:Hp} {Q:VK} (q:Q (.bl (!decide (l=k))) H):rNe (.str (tx l)) (.str (tx k)) H Q:=by
 refine⟨rfl,?_⟩;have:decide (V.str (tx l)=V.str (tx k))=decide (l=k):=decide_eq_decide.mpr ⟨fun h=>y5Q.mp (V.str.inj h),fun h=>by rw[h]⟩;rw[this];exact q
theorem eqS {y z:Str} {H:Hp} {Q:VK} (q:Q (.bl (decide (y=z))) H):rEq (.str y) (.str z) H Q:=by
 refine⟨rfl,?_⟩;have:decide (V.str y=V.str z)=decide (y=z):=decide_eq_decide.mpr ⟨fun h=>V.str.inj h,fun h=>by rw[h]⟩;rw[this];exact q
theorem z1n {l:List Nat} {i:Nat} (hi:i<=l.length):u6e (tx l) (some (i:Int)) none=tx (l.drop i):=by
 have a:¬((l.length:Int)<0):=by omega
 have e:u6e (tx l) (some (i:Int)) none=u6e (tx l) (some (i:Int)) (some (l.length:Int)):=by
  show u5R _ _ _=u5R _ _ _;unfold u5R;rw[zU];simp [u6g,a]
 rw[e,kT hi (u3y _),u5C (by rw[u4w];omega)]
local macro_rules | `(tactic| walk_at "wpd")=>`(tactic| try simp only [z2N,z2a,z3Q,z2Z,z5s,wC,z2t,z0A,z9T,z2V,z2d,vn,z2P,vP,vS,kM,vZ,vY,y1l,z6q,z6p,z6v,z6s,z7V,y2I,y2H,z2v,z2u,vO,y1n,y3G,z7v,z7w,z2e,z6u,z2S,v7,z2R,vR,z6w,z2T,v3,z2L,z2U,v6,z6x,kL,z2Q,z7u,z2c,z7p,z6t,qN,vQ,z6y,z2b,vN,z3j,vo,z3k,z2W,vi,vh,vf,vg,ve,vj,z2O,vk,z3R,z3T,z3P,vd,vm,ko,z3S,z2X,z3M,vc,vX,z2Y,z2s,qU,vU,vW,jF,vT,vV,v4,z3N,L2.j8,z8A,vq,kx,u4j,List.map_nil,u3x,u4G,List.replicate,u5G,u5a,u5l,List.set_cons_zero,List.set_cons_succ,decide_eq_true_eq,u6B,decide_eq_false_iff_not,Bool.not_eq_eq_eq_not,Bool.not_true,Bool.not_false,u4Q,oV,reduceCtorEq,z7m,z7n,z7l,z7o,Nat.reduceAdd,Nat.reduceSub,Nat.reduceLeDiff,Nat.zero_add,true_and,and_true,forall_const,u5h,if_true,if_false,false_implies,true_implies,not_false_eq_true,not_true_eq_false,implies_true])
noncomputable def ltB (c:Nat):Bool:=decide (97<=c/\c<=122)
noncomputable def nmB (l:List Nat):Bool:=decide (1<=l.length) && (decide (l.length<=8) && l.all ltB)
noncomputable def z4C (l:List Nat):Bool:=if l.take 1=[45] then !decide (l=[45,48]) && z8w (l.drop 1) else z8w l
noncomputable def y1c (p:Str) (l:List Nat):Bool:=if p = "name" then nmB l else if p = "turn" then z4C l else if p = "prime" then z5n 12 l else if p = "number" then z5n 50 l else true
theorem y6E (c:Nat):(!(u4s (u3t "abcdefghijklmnopqrstuvwxyz") ⟨#[c]⟩ 0 (u3t "abcdefghijklmnopqrstuvwxyz").length 1).isEmpty)=ltB c:=by
 rw[StrLaws.found_one,show (u3t "abcdefghijklmnopqrstuvwxyz").cps.toList=u6O 97 26 by decide +kernel];unfold ltB;rw[decide_eq_decide,List.mem_range'_1];omega
noncomputable def z1k:Sp:=fun vs H Q _=>∃l:List Nat,vs=[.str (tx l)]/\TxOk l/\∀H',Same H H'->Q (.bl (nmB l)) H'
theorem y0o (T:TF K mg "is_name" z0X) (u0D:mg "len" = none) (u1f:mg "all" = none) (u1c:CS mg "LETTERS" "abcdefghijklmnopqrstuvwxyz") (u0t:CI mg "MOST_LETTERS" 8):Has P w K mg base 1 "is_name" ["word"] z1k:=by
 refine T.has z8Z (fun _ _ _ _ _ _=>L2.bnd1 fun _=>rfl) (fun vs H Q E h=>?_) (fun f cdv A outer s H vs Q E hr h=>?_)
 ·refine pA fun Gu gW=>?_;obtain⟨l,rfl,_⟩:=h;refine gW ?_;rfl
 refine pA fun Gv gX=>?_;obtain⟨l,rfl,hl,q⟩:=h;refine gX ?_;refine⟨_,(zF (zL (vE (vb z4l z4l zG (zf yJ rfl u0D u4n (zB (pv 0) zE)) (z3C rfl u0t)) (z0e (zf (z5d rfl) rfl u1f (by decide +kernel) (zB (yz (CompSc.none (own:=["sign"]) (by decide +kernel) (by decide +kernel) rfl (by decide +kernel)) rfl (y3c (pv 0)) (fun _ _ _=>(zd (i:=0) (show (["sign"]:List Str).Nodup from by decide +kernel) rfl (Or.inl rfl) (Or.inr rfl))) (fun _ _ _=>yx) (fun _ _ _=>(yt z0i (pv 0) (y4W rfl u1c) rfl))) zE)))))),?_⟩;have ln:=hl.1;have tl:=zU l;walk_at "wp";have no:nmB l=false->Q (.bl false) H:=fun e=>by
  have:=q H (Same.refl H);rw[e] at this;exact this
 refine⟨_,rfl,by omega,fun c1=>⟨fun c2=>⟨_,rfl,hl.asc,?_⟩,fun c2=>no ?_⟩,fun c1=>no ?_⟩
 ·obtain⟨Sv,hSv⟩:∃Sv:St->Prop,Sv=fun σ=>∃o1,σ=[o1]:=⟨_,rfl⟩
  obtain⟨Pv,hPv⟩:∃Pv:Addr->Nat->List V->Hp->Prop,Pv=fun D i ys H3=>H D=none/\Same H H3/\ys=((l.take i).map ltB).map V.bl:=⟨_,rfl⟩
  refine z5V Sv Pv (by rw[hSv];exact⟨none,rfl⟩) (fun D hD=>?_) (fun D i c ys σ H3 hx hs hD hy h=>?_) (fun D ys H3 hD h=>?_)
  ·rw[hPv];exact⟨hD,zJ hD _,rfl⟩
  ·rw[hSv] at hs;rw[hPv] at h;obtain⟨o1,rfl⟩:=hs;refine pA fun Gw gZ=>?_;obtain⟨nD,g,rfl⟩:=h;refine gZ ?_;have hx':l[i]?=some c:=by
    rw[←zj l,u4R];exact hx
   have hi:=(u4K.mp hx').1;walk_at "wp";refine⟨_,_,rfl,rfl,?_⟩;rw[y6E];refine CompP.mk hD hy (by rw[u4Q];omega) (by rw[hSv];exact⟨_,rfl⟩) (by
    rw[hPv];refine⟨nD,g.write nD _,?_⟩;rw[u4N,hx'];simp)
  ·rw[hPv] at h;refine pA fun Gx fA=>?_;obtain⟨nD,g,rfl⟩:=h;refine fA ?_;have es:(tx l).cps.size=l.length:=tl;rw[es,u4b] at hD;refine⟨D,_,rfl,SqL.of hD,?_⟩;have ef:(l.map ltB).all id=nmB l:=by
    unfold nmB;rw[decide_eq_true (p:=1<=l.length) (by omega),decide_eq_true (p:=l.length<=8) (by omega),List.all_map];rfl
   rw[ef];exact q _ g
 ·unfold nmB;rw[decide_eq_false (p:=l.length<=8) (by omega)];simp
 ·unfold nmB;rw[decide_eq_false (p:=1<=l.length) (by omega)];simp
noncomputable def z1j:Sp:=fun vs H Q _=>∃l:List Nat,vs=[.str (tx l)]/\TxOk l/\∀H',Same H H'->Q (.bl (z4C l)) H'
theorem y0n (T:TF K mg "is_turn" z0W) (u0P:CI mg "MOST_FIGURES" 100) (u0Q:Has P w K mg base 1 "is_figures" ["text", "most"] qQ):Has P w K mg base 2 "is_turn" ["word"] z1j:=by
 refine T.has z8Y (fun _ _ _ _ _ _=>L2.bnd1 fun _=>rfl) (fun vs H Q E h=>?_) (fun f cdv A outer s H vs Q E hr h=>?_)
 ·refine pA fun Gy fB=>?_;obtain⟨l,rfl,_⟩:=h;refine fB ?_;rfl
 refine pA fun Gz fE=>?_;obtain⟨l,rfl,hl,q⟩:=h;refine fE ?_;refine⟨_,(zC (zh (yE (xx u5D u6f PySem.F.type_str_startswith y0L (pv 0) (zB zM zE)) (fun _=>rfl)) (zF (zL (vE (yt z4k (pv 0) zM (zV _)) (z0e (zS (u0Q.mono (by first|decide|omega)) hr (zB (xU z4N (pv 0) (xc zG) kE) (zB (z3C rfl u0P) zE))))))) zP) (zF (zL (zS (u0Q.mono (by first|decide|omega)) hr (zB (pv 0) (zB (z3C rfl u0P) zE)))))),?_⟩;have ln:=hl.1;have tl:=zU l;walk_at "wp";have mT:u3t "-" = tx [45]:=by decide +kernel
 have zT:u3t "-0" = tx [45,48]:=by decide +kernel
 have sb:=z6z l [45] 0 (by decide);rw[Nat.zero_add,List.drop_zero] at sb;refine⟨rfl,_,_,rfl,rfl,fun c=>?_,fun c=>?_⟩
 ·rw[mT,sb,decide_eq_true_eq] at c;have c':l.take 1=[45]:=c;have l1:1<=l.length:=by
   have:=congrArg List.length c';rw[u5F] at this;simp at this;omega
  unfold z4C at q;rw[if_pos c'] at q;rw[zT];refine neT ⟨_,rfl,fun c2=>?_,fun c2=>?_⟩
  ·rw[c2,Bool.true_and] at q;refine⟨_,rfl,by rw[tl,u4Q];omega,?_⟩;have e1:u6e (tx l) (some 1) none=tx (l.drop 1):=z1n (i:=1) l1;rw[e1];exact⟨l.drop 1,100,rfl,⟨by rw[u4w];omega,fun x hx=>hl.2 x (u6R hx)⟩,q⟩
  ·have c3:(!decide (l=[45,48]))=false:=by simpa using c2
   rw[c3] at q;exact q H (Same.refl H)
 ·rw[mT,sb,decide_eq_true_eq] at c;have c':¬l.take 1=[45]:=c;unfold z4C at q;rw[if_neg c'] at q;exact⟨l,100,rfl,hl,q⟩
noncomputable def z9d:Sp:=fun vs H Q _=>∃(p:Str) (l:List Nat),vs=[.str p,.str (tx l)]/\TxOk l/\∀H',Same H H'->Q (.bl (y1c p l)) H'
theorem y6R (T:TF K mg "fits" z9m) (u0n:CI mg "PRIME_FIGURES" 12) (u0u:CI mg "GRID_FIGURES" 50) (u0Q:Has P w K mg base 1 "is_figures" ["text", "most"] qQ) (u3Z:Has P w K mg base 1 "is_name" ["word"] z1k) (u3a:Has P w K mg base 2 "is_turn" ["word"] z1j):Has P w K mg base 3 "fits" ["place", "word"] z9d:=by
 refine T.has y4I (fun _ _ _ _ _ _=>L2.bnd2 fun _ _=>rfl) (fun vs H Q E h=>?_) (fun f cdv A outer s H vs Q E hr h=>?_)
 ·refine pA fun Ga hU=>?_;obtain⟨p,l,rfl,_⟩:=h;refine hU ?_;rfl
 refine pA fun Gb hV=>?_;obtain⟨p,l,rfl,hl,q⟩:=h;refine hV ?_;refine⟨_,(zC (zh (zR yX (pv 0) zM (zV _)) (zF (zL (zS (u3Z.mono (by first|decide|omega)) hr (zB (pv 1) zE)))) zP) (zC (zh (zR yX (pv 0) zM (zV _)) (zF (zL (zS (u3a.mono (by first|decide|omega)) hr (zB (pv 1) zE)))) zP) (zC (zh (zR yX (pv 0) zM (zV _)) (zF (zL (zS (u0Q.mono (by first|decide|omega)) hr (zB (pv 1) (zB (z3C rfl u0n) zE))))) zP) (zC (zh (zR yX (pv 0) zM (zV _)) (zF (zL (zS (u0Q.mono (by first|decide|omega)) hr (zB (pv 1) (zB (z3C rfl u0u) zE))))) zP) (zF (zL qe)))))),?_⟩;walk_at "wp";unfold y1c at q;refine eqS ⟨_,rfl,fun c=>?_,fun c=>?_⟩
 ·rw[if_pos (of_decide_eq_true c)] at q;exact⟨l,rfl,hl,q⟩
 rw[if_neg (fun z=>c (decide_eq_true z))] at q;refine eqS ⟨_,rfl,fun c=>?_,fun c=>?_⟩
 ·rw[if_pos (of_decide_eq_true c)] at q;exact⟨l,rfl,hl,q⟩
 rw[if_neg (fun z=>c (decide_eq_true z))] at q;refine eqS ⟨_,rfl,fun c=>?_,fun c=>?_⟩
 ·rw[if_pos (of_decide_eq_true c)] at q;exact⟨l,12,rfl,hl,q⟩
 rw[if_neg (fun z=>c (decide_eq_true z))] at q;refine eqS ⟨_,rfl,fun c=>?_,fun c=>?_⟩
 ·rw[if_pos (of_decide_eq_true c)] at q;exact⟨l,50,rfl,hl,q⟩
 rw[if_neg (fun z=>c (decide_eq_true z))] at q;exact q H (Same.refl H)
noncomputable def z1L:List (Str×List Str):=[("plan",["name", "text"]),("pair",["name", "prime", "prime"]),("grid",["name", "number"]),("awake",["name", "turn"]),("meet",["name", "name", "turn", "turn"]),("sure",["name", "name"]),("worst",["name", "name"]),("check",["name", "name", "text"])]
noncomputable def z5R (l:List Nat):Option (List Str):=z1L.lookup (tx (l.takeWhile (· != 32)))
noncomputable def qg:List Str->List (List Nat)->Bool
 | p::ps,w::ws=>y1c p w && qg ps ws
 | _,_=>true
noncomputable def qd (l:List Nat):Option (List (List Nat)):=match z5R l with
 | none=>none
 | some f=>if (j5 32 l f.length).length=f.length+1/\qg f (j5 32 l f.length).tail=true then some (j5 32 l f.length) else none
theorem xX {z:Str} {ys:List Str}:∀ {tb:List (Str×List Str)},tb.lookup z=some ys->∃k,(k,ys)∈tb
  | [],h=>nomatch h
  | (k,v)::tb,h=>by
    rw[u5O] at h;split at h
    · cases h;exact⟨k,by simp⟩
    · obtain⟨k',hk⟩:=xX h;exact⟨k',by simp [hk]⟩
theorem y0u {z:Str} {f:List Str} (h:z1L.lookup z=some f):f.length<=4:=by
 obtain⟨k,hk⟩:=xX h;have all:∀p∈z1L,p.2.length<=4:=by
  intro p hp;simp only [z1L,u3w,u4B,or_false] at hp;rcases hp with rfl|rfl|rfl|rfl|rfl|rfl|rfl|rfl <;> simp
 exact all _ hk
theorem y3L (xs:List V):z9K xs (some 1) none=xs.drop 1:=by
 unfold z9K;rw[HT.sIx_none,show (1:Int)=((1:Nat):Int) from rfl,HT.sIx_nat];cases xs with
 | nil=>rfl
 | cons x xs=>
  rw[u5C (by rw[u4w];omega)];congr 1
noncomputable def z0D (N:Addr):Sp:=fun vs H Q E=>∃l:List Nat,vs=[.str (tx l)]/\TxOk l/\(qd l=none->∀x H',Same H H'->H' x=none->E (.ref N) (some x) H')/\∀ws D H',qd l=some ws->Same H H'->H D=none->H' D=some (.lst ((ws.map tx).map V.str))->Q (.ref D) H'
theorem z8n {u0W:Addr} {bm:List Value} (T:TF K mg "words_of" wJ) (u0D:mg "len" = none) (u3H:mg "zip" = none) (u0F:mg "isinstance" = none) (u0I:mg "str" = none) (u0X:OX K mg "NoRow" u0W bm) (u1s:CDT P w K mg "FORMS" z1L) (G_fits:Has P w K mg base 3 "fits" ["place", "word"] z9d):HasX P w K mg base 4 "words_of" ["row"] (z0D u0W):=by
 refine T.hasX xY (fun _ _ _ _ _ _=>L2.bnd1 fun _=>rfl) (fun vs H Q E h=>?_) (fun f cdv A outer s H vs Q E hr h=>?_)
 ·refine pA fun Gc gB=>?_;obtain⟨l,rfl,_⟩:=h;refine gB ?_;rfl
 refine pA fun Gd gC=>?_;obtain⟨l,rfl,hl,qx,q⟩:=h;refine gC ?_;refine⟨_,(zC (zh (xb (yE (zf z3s rfl u0F (by decide +kernel) (zB (pv 0) (zB (z3D (v:=.ty "str") rfl u0I (by decide +kernel) rfl) zE))) (fun _=>rfl))) (zF (jV u0X rfl vz (zB zM zE))) zP) (zC (zQ (i:=1) xY.nd rfl (Or.inl rfl) (y4X u1s rfl (zY zg (xx u5D PySem.F.slot_str_partition PySem.F.type_str_partition vF (pv 0) (zB zM zE)) zG (fun _ _=>rfl)) ⟨rfl,rfl,rfl,rfl⟩)) (zC (zh (zR z1z (pv 1) yI (zV _)) (zF (jV u0X rfl vz (zB zM zE))) zP) (zC (zQ (i:=2) xY.nd rfl (Or.inl rfl) (xx u5D u5N PySem.F.type_str_split y0M (pv 0) (zB zM (zB (zf zo rfl u0D u4n (zB (pv 1) zE)) zE)))) (zC (zh (zR z4k (zf zo rfl u0D u4n (zB (pv 2) zE)) (zN xI (zf zo rfl u0D u4n (zB (pv 1) zE)) zG) (zV _)) (zF (jV u0X rfl vz (zB zM zE))) zP) (zC (yP (xR y3d rfl (y4P rfl u3H (pv 1) (xU z5w (pv 2) (xc zG) kE)) (vD rfl (zq (zd (i:=3) xY.nd rfl (Or.inl rfl)) (zq (zd (i:=4) xY.nd rfl (Or.inl rfl)) jW))) (zF (zh (xb (yE (zS (G_fits.mono (by first|decide|omega)) hr (zB (pv 3) (zB (pv 4) zE))) (fun _=>rfl))) (zF (jV u0X rfl vz (zB zM zE))) zP)))) (zF (zL (pv 2))))))))),?_⟩;have ln:=hl.1;have tl:=zU l;walk_at "wpd";refine⟨_,_,_,true,rfl,.str _,rfl,_,rfl,(fun c=>nomatch c),fun _=>?_⟩;walk_at "wpd";rw[z2H];refine⟨rfl,_,_,rfl,rfl,rfl,by rw[tl];omega,fun D nD=>?_⟩;have gD:=zJ nD (.tup [V.str (u5d (tx l) ⟨#[32]⟩).1,V.str (u5d (tx l) ⟨#[32]⟩).2.1,V.str (u5d (tx l) ⟨#[32]⟩).2.2]);refine⟨D,_,_,_,rfl,rfl,SqT.of zH,rfl,_,rfl,?_⟩;generalize upd H D (.tup [V.str (u5d (tx l) ⟨#[32]⟩).1,V.str (u5d (tx l) ⟨#[32]⟩).2.1,V.str (u5d (tx l) ⟨#[32]⟩).2.2])=H1 at gD ⊢;rw[z4h,zj];refine⟨fun e=>⟨by decide,fun x hx=>qx ?_ x H1 gD hx⟩,fun f b e hf=>?_⟩
 ·unfold qd z5R;rw[e]
 have lf:=y0u e;have er:qd l=if (j5 32 l f.length).length=f.length+1/\qg f (j5 32 l f.length).tail=true then some (j5 32 l f.length) else none:=by
  unfold qd z5R;rw[e]
 refine⟨rfl,b,_,rfl,.inr hf,_,_,f.length,rfl,by rw[u3z],rfl,by omega,by rw[tl];omega,fun D2 nD2=>?_⟩;rw[z4E _ _ _ (by decide),zj];have wsm:∀w∈j5 32 l f.length,TxOk w:=fun w hw=>by
  obtain⟨a,b⟩:=wD hw;exact⟨by omega,fun x hx=>hl.2 x (b x hx)⟩
 generalize j5 32 l f.length=ws at er wsm;have g2:=zJ nD2 (.lst ((ws.map tx).map V.str));have h2:=zH (H:=H1) (a:=D2) (o:=.lst ((ws.map tx).map V.str));have nD2':=gD.free nD2;have hf2:=g2.seqT hf;have G2:=gD.trans g2;generalize upd H1 D2 (.lst ((ws.map tx).map V.str))=H2 at g2 h2 hf2 G2 ⊢;refine⟨D2,_,rfl,.inl (SqL.of h2),b,_,rfl,.inr hf2,fun c=>⟨by decide,fun x hx=>qx ?_ x H2 G2 hx⟩,fun c=>?_⟩
 ·rw[er,if_neg fun z=>c ?_];simp only [u3z];have:=z.1;omega
 simp only [u3z] at c;have lw:ws.length=f.length+1:=by omega
 walk_at "wpd";refine⟨fun σ H'=>∃o3 o4,σ=[some (.str (tx l)),some (.ref b),some (.ref D2),o3,o4]/\Same H2 H'/\qg f ws.tail=true,?_,?_⟩
 ·walk_at "wpd";refine⟨D2,_,rfl,SqL.of h2,fun p3 n3=>?_⟩;rw[y3L];have g3:=zJ n3 (.lst (((ws.map tx).map V.str).drop 1));have h3:=zH (H:=H2) (a:=p3) (o:=.lst (((ws.map tx).map V.str).drop 1));have hf3:=g3.seqT hf2;generalize upd H2 p3 (.lst (((ws.map tx).map V.str).drop 1))=H3 at g3 h3 hf3 ⊢;refine⟨b,p3,_,_,rfl,rfl,hf3,SqL.of h3,?_⟩;obtain⟨Pv,hPv⟩:∃Pv:Nat->St->Hp->Prop,Pv=fun i σ H'=>∃o3 o4,σ=[some (.str (tx l)),some (.ref b),some (.ref D2),o3,o4]/\Same H3 H'/\qg f ws.tail=qg (f.drop i) (ws.tail.drop i):=⟨_,rfl⟩
  refine y0w Pv ?_ (fun i σ H' h=>?_) (fun i u v T σ H' hu hv nT h=>?_) (fun σ H' h=>?_)
  ·rw[hPv];exact⟨none,none,rfl,Same.refl _,rfl⟩
  ·rw[hPv] at h;refine pA fun Ge gE=>?_;obtain⟨_,_,_,g,_⟩:=h;refine gE ?_;exact⟨g.seqT hf3,SqL.of (g _ _ h3)⟩
  ·rw[hPv] at h;refine pA fun Gf gG=>?_;obtain⟨o3,o4,rfl,g,ef⟩:=h;refine gG ?_;rw[u4T] at hu;refine pA fun Gg gH=>?_;obtain⟨p,hp,rfl⟩:=u4e.mp hu;refine gH ?_;rw[←List.map_drop,←List.map_drop,u4T,u4T] at hv;refine pA fun Gh gI=>?_;obtain⟨z,hz,rfl⟩:=u4e.mp hv;refine gI ?_;refine pA fun Gi gJ=>?_;obtain⟨wd,hwd,rfl⟩:=u4e.mp hz;refine gJ ?_;have gT:=zJ nT (.tup [V.str p,V.str (tx wd)]);refine⟨T,_,rfl,SqT.of zH,rfl,?_⟩;walk_at "wpd";have fd:f.drop i=p::f.drop (i+1):=by
    obtain⟨hi,e1⟩:=u4K.mp hp;rw[←e1,u6C hi]
   have wd2:ws.tail.drop i=wd::ws.tail.drop (i+1):=by
    rw[←List.drop_one];obtain⟨hi,e1⟩:=u4K.mp hwd;rw[←e1,u6C hi]
   rw[fd,wd2] at ef;have ef2:qg f ws.tail=(y1c p wd && qg (f.drop (i+1)) (ws.tail.drop (i+1))):=ef;refine⟨p,wd,rfl,wsm wd (u6R (u4F hwd)),fun H5 g5=>⟨_,rfl,fun c=>⟨by decide,fun x hx=>qx ?_ x H5 (G2.trans (g3.trans (g.trans (gT.trans g5)))) hx⟩,fun c=>?_⟩⟩
   ·rw[er,if_neg];rintro⟨_,z⟩;rw[ef2,c] at z;cases z
   ·have c':y1c p wd=true:=by simpa using c
    rw[c',Bool.true_and] at ef2;rw[hPv];exact⟨_,_,rfl,g.trans (gT.trans g5),ef2⟩
  ·rw[hPv] at h;refine pA fun Gj gK=>?_;obtain⟨o3,o4,rfl,g,ef⟩:=h;refine gK ?_;have e0:f.drop (min (f.map V.str).length (((ws.map tx).map V.str).drop 1).length)=[]:=List.drop_eq_nil_of_le (by simp;omega);rw[e0] at ef;exact⟨o3,o4,rfl,g3.trans g,by rw[ef];rfl⟩
 rintro σ H' ⟨o3,o4,rfl,g,ef⟩;walk_at "wpd";exact q ws D2 H' (by rw[er,if_pos ⟨lw,ef⟩]) (G2.trans g) nD2' (g _ _ h2)
theorem y3m {n:Int} (h:n<0):dg n=45::dg (-n):=by
 obtain⟨m,rfl⟩:∃m:Nat,n=Int.negSucc m:=by
  cases n with
  | ofNat m=>exact absurd h (by simp)
  | negSucc m=>exact⟨m,rfl⟩
 unfold dg;have e:-(Int.negSucc m)=((m+1:Nat):Int):=rfl;rw[e,PyProof.Rows.signs_ofString,PyProof.Rows.signs_ofString];show ("-" ++ toString (m+1)).toList.map Char.toNat=45::(toString (m+1)).toList.map Char.toNat;rw[String.toList_append,List.map_append];rfl
structure SgOk (n:Int):Prop where
 rd:intText? (tx (dg n))=some n
 len:(dg n).length<=101
 sz:n.natAbs.log2<1920
 sg:∀c∈dg n,c=45∨48<=c/\c<=57
 turn:z4C (dg n)=true
theorem z6b {n:Int} (h:DgOk n):z8w (dg n)=true:=by
 refine y3F.mpr ⟨List.length_pos_iff.mpr h.ne,h.len,fun⟨a,b⟩=>?_,h.all⟩;have:=h.zero a;omega
theorem y5k {n:Int} (h0:-(10^100)<n) (h1:n<10^100):SgOk n:=by
 have sz:n.natAbs.log2<1920:=by
  by_cases z:n.natAbs=0
  ·rw[z];decide
  ·refine (Nat.log2_lt z).mpr (u4X (m:=10^100) (by omega) (by decide +kernel))
 rcases Int.lt_or_le n 0 with c|c
 ·have d:=z8y (n:=-n) (by omega) (by omega);have e:=y3m c;have fg:=z6b d;refine⟨?_,by rw[e,u3x];have:=d.len;omega,sz,fun x hx=>?_,?_⟩
  ·have:=intText_neg (x:=tx (dg n)) (cs:=dg (-n)) (by rw[zj,e]) d.all d.ne (by rw[zU,e,u3x];have:=d.len;omega);rw[this,d.val];congr 1;omega
  ·rw[e] at hx;rcases u3w.mp hx with rfl|hx
   ·exact .inl rfl
   ·exact .inr (d.all x hx)
  ·unfold z4C;rw[e,if_pos (by rfl)];have ne:¬(45::dg (-n))=[45,48]:=fun z=>by
    have z2:dg (-n)=[48]:=(List.cons.inj z).2;have v:=d.val;rw[z2] at v;have:(0:Int) = -n:=v;omega
   rw[decide_eq_false ne];show (true && z8w (dg (-n)))=true;rw[fg];rfl
 ·have d:=z8y c h1;have fg:=z6b d;refine⟨?_,by have:=d.len;omega,sz,fun x hx=>.inr (d.all x hx),?_⟩
  ·have:=intText_digits (x:=tx (dg n)) (by rw[zj];exact d.all) (by rw[zj];exact d.ne) (by rw[zU];have:=d.len;omega);rw[this,zj,d.val]
  ·unfold z4C;rw[if_neg (fun z=>?_)]
   ·exact fg
   ·have ne:=d.ne;cases e:dg n with
    | nil=>exact ne e
    | cons x r=>
     rw[e] at z;have:x=45:=by simpa using z
     have:=d.all x (by rw[e];simp);omega
noncomputable abbrev ky:=Str->Option (List T3)
noncomputable def KpP (ws:List T3):Prop:=(∀u∈ws,Wk u)/\(∀u∈ws,u.1<2^900)/\ws.length<=12
noncomputable def BkAt (H:Hp) (kvs:List (Key×V)) (L:ky):Prop:=∀z:Str,(L z=none->z1N kvs (.inr z)=none)/\∀ws,L z=some ws->KpP ws/\∃D xs,z1N kvs (.inr z)=some (.ref D)/\H D=some (.lst xs)/\Pl H xs ws
noncomputable def y8C (pd:Addr) (H H':Hp):Prop:=∀b o,b≠pd->H b=some o->H' b=some o
theorem y6o {H H':Hp} {xs:List V} {ws:List T3} (h:Pl H xs ws) (k:∀b ys,H b=some (.tup ys)->H' b=some (.tup ys)):Pl H' xs ws:=⟨h.1,fun i t e=>let ⟨p,e1,e2⟩:=h.2 i t e;⟨p,e1,k _ _ e2⟩⟩
theorem BkAt.by {H H':Hp} {kvs:List (Key×V)} {L:ky} (h:BkAt H kvs L) (k1:∀b xs,H b=some (.lst xs)->H' b=some (.lst xs)) (k2:∀b ys,H b=some (.tup ys)->H' b=some (.tup ys)):BkAt H' kvs L:=fun z=>
 ⟨(h z).1,fun ws e=>let ⟨a,D,xs,e1,e2,e3⟩:=(h z).2 ws e;⟨a,D,xs,e1,k1 _ _ e2,y6o e3 k2⟩⟩
noncomputable def z5l (L:ky) (z:Str) (ws:List T3):ky:=fun y=>if y=z then some ws else L y
theorem BkAt.put {H:Hp} {kvs:List (Key×V)} {L:ky} {z:Str} {D:Addr} {xs:List V} {ws:List T3} (h:BkAt H kvs L) (hk:KpP ws) (hD:H D=some (.lst xs)) (hP:Pl H xs ws):BkAt H (z5m kvs (.inr z) (.ref D)) (z5l L z ws):=by
 intro y;rw[y1g];unfold z5l;by_cases e:y=z
 ·rw[if_pos e,if_pos (by rw[e])];refine⟨(fun k=>nomatch k),fun us k=>?_⟩;cases k;exact⟨hk,D,xs,rfl,hD,hP⟩
 ·rw[if_neg e,if_neg (fun k=>e (Sum.inr.inj k))];exact h y
noncomputable def Dsk (C:Addr) (H:Hp) (d pd:Addr) (n:Nat) (L:ky):Prop:=(∃dx,H d=some (.ins C dx [("plans",.ref pd)]))/\∃kvs,H pd=some (.dK kvs)/\kvs.length<=n/\BkAt H kvs L
theorem Dsk.same {C:Addr} {H H':Hp} {d pd:Addr} {n:Nat} {L:ky} (h:Dsk C H d pd n L) (g:Same H H'):Dsk C H' d pd n L:=by
 refine pA fun Gk gL=>?_;obtain⟨⟨dx,hd⟩,kvs,hp,hl,hb⟩:=h;refine gL ?_;exact⟨⟨dx,g _ _ hd⟩,kvs,g _ _ hp,hl,hb.by (fun b xs e=>g _ _ e) fun b xs e=>g _ _ e⟩
structure DkTx (K:u3q) (C:Addr):Prop where
 cl:Cls K C
 nP:NoAttr K C "plans"
noncomputable def z7O (C:Addr):Sp:=fun vs H Q _=>∃(x dx:Addr),vs=[.ref x]/\H x=some (.ins C dx [])/\∀pd H',Dsk C H' x pd 0 (fun _=>none)->H pd=none->(∀b o,b≠x->H b=some o->H' b=some o)->Q .non H'
theorem y4p {C:Addr} (X:DkTx K C) (T:TM K C "__init__" "Desk.__init__" xa):HasM P w K mg base 1 C "__init__" ["self"] (z7O C):=by
 refine T.has vK (fun _ _ _ _ _ _=>L2.bnd1 fun _=>rfl) (fun vs H Q E h=>?_) (fun f cdv A outer s H vs Q E hr h=>?_)
 ·refine pA fun Gm gM=>?_;obtain⟨x,dx,rfl,_⟩:=h;refine gM ?_;rfl
 refine pA fun Gn gN=>?_;obtain⟨x,dx,rfl,hx,q⟩:=h;refine gN ?_;refine⟨_,(zF (z9t (pv 0) z7a rfl)),?_⟩;walk_at "wpd";intro p np;have nx:x≠p:=zW hx np;have gp:=zJ np (.dK []);refine⟨x,C,dx,[],rfl,gp _ _ hx,X.cl,X.nP,by decide,q p _ ⟨⟨dx,zH⟩,[],by rw[zb (Ne.symm nx),zH],u3y _,fun z=>⟨fun _=>rfl,fun ws e=>nomatch e⟩⟩ np fun b o hb e=>?_⟩;rw[zb hb];exact gp _ _ e
noncomputable def z1f (K:u3q) (C N:Addr):Sp:=fun vs H Q E=>∃(d pd:Addr) (z:Str) (n:Nat) (L:ky),vs=[.ref d,.str z]/\Dsk C H d pd n L/\(L z=none->∀x,H x=none->E (.ref N) (some x) H)/\∀ws D xs,L z=some ws->KpP ws->H D=some (.lst xs)->Pl H xs ws->Q (.ref D) H
theorem y0h {C u0R:Addr} {bm:List Value} (X:DkTx K C) (T:TM K C "plan_by" "Desk.plan_by" xu) (u0e:OX K mg "NoName" u0R bm):HasMX P w K mg base 1 C "plan_by" ["self", "name"] (z1f K C u0R):=by
 refine T.hasX z0O (fun _ _ _ _ _ _=>L2.bnd2 fun _ _=>rfl) (fun vs H Q E h=>?_) (fun f cdv A outer s H vs Q E hr h=>?_)
 ·refine pA fun Go gO=>?_;obtain⟨d,pd,z,n,L,rfl,_⟩:=h;refine gO ?_;rfl
 refine pA fun Gp gP=>?_;obtain⟨d,pd,z,n,L,rfl,⟨⟨dx,hd⟩,kvs,hp,hl,hb⟩,qx,q⟩:=h;refine gP ?_;refine⟨_,(zC (zh (y5r (y0A (qH hr) (pv 1) (jC (pv 0) rfl))) (zF (jV u0e rfl vz (zB zM zE))) zP) (zF (zL (xO (qH hr) (jC (pv 0) rfl) (pv 1) (fun _ _=>rfl))))),?_⟩;walk_at "wpd";have dg:=DGet.k (k:=.inr z) hp;refine⟨d,C,dx,_,.ref pd,rfl,hd,X.cl,X.nP,rfl,pd,_,rfl,dg,fun c=>?_,fun c=>?_⟩
 ·cases e:L z with
  | none=>exact⟨by decide,fun x hx=>qx e x hx⟩
  | some ws=>
   refine pA fun Gq gQ=>?_;obtain⟨_,D,xs,e1,_⟩:=(hb z).2 ws e;refine gQ ?_;rw[e1] at c;cases c
 ·cases e:L z with
  | none=>exact absurd (by rw[(hb z).1 e];rfl) c
  | some ws=>
   refine pA fun Gr gR=>?_;obtain⟨k,D,xs,e1,e2,e3⟩:=(hb z).2 ws e;refine gR ?_;rw[e1] at dg;exact⟨d,C,dx,_,.ref pd,rfl,hd,X.cl,X.nP,rfl,pd,.ref D,rfl,dg,q ws D xs e k e2 e3⟩
noncomputable def y6a:Option Int->Str
 | none=> "never"
 | some n=>u3t (toString n)
noncomputable def qi:Sp:=fun vs H Q _=>∃r:Option Int,vs=[oV r]/\(∀n,r=some n->n.natAbs.log2<1920)/\Q (.str (y6a r)) H
theorem z3V (T:TF K mg "turn_answer" jM) (u0I:mg "str" = none):Has P w K mg base 1 "turn_answer" ["turn"] qi:=by
 refine T.has z1O (fun _ _ _ _ _ _=>L2.bnd1 fun _=>rfl) (fun vs H Q E h=>?_) (fun f cdv A outer s H vs Q E hr h=>?_)
 ·refine pA fun Gs gU=>?_;obtain⟨r,rfl,_⟩:=h;refine gU ?_;rfl
 refine pA fun Gu gW=>?_;obtain⟨r,rfl,hz,q⟩:=h;refine gW ?_;refine⟨_,(zF (zL (z3B (zR z1z (pv 0) yI (zV _)) zM (zZ zx rfl u0I (by decide +kernel) (zB (pv 0) zE))))),?_⟩;walk_at "wpd";cases r with
 | none=>exact⟨fun _=>q,fun c=>absurd rfl c⟩
 | some n=>exact⟨(fun c=>nomatch c),fun _=>⟨n,rfl,hz n rfl,q⟩⟩
noncomputable def z6F:List Nat:=[112,108,97,110]
noncomputable def y3s:List Nat:=[97,119,97,107,101]
noncomputable def z3J:List Nat:=[109,101,101,116]
theorem y2M:u3t "plan" = tx z6F:=by decide +kernel
theorem y1X:u3t "awake" = tx y3s:=by decide +kernel
theorem y2f:u3t "meet" = tx z3J:=by decide +kernel
noncomputable def xm:Sp:=fun vs H Q _=>∃n:Int,vs=[.str (tx (dg n))]/\DgOk n/\∀H',Same H H'->Q (.int n) H'
theorem z1U (T:TF K mg "read_number" jQ) (u0j:mg "int" = none) (u0P:CI mg "MOST_FIGURES" 100) (u0Q:Has P w K mg base 1 "is_figures" ["text", "most"] qQ):Has P w K mg base 2 "read_number" ["text"] xm:=by
 refine T.has z1P (fun _ _ _ _ _ _=>L2.bnd1 fun _=>rfl) (fun vs H Q E h=>?_) (fun f cdv A outer s H vs Q E hr h=>?_)
 ·refine pA fun Gv gX=>?_;obtain⟨n,rfl,_⟩:=h;refine gX ?_;rfl
 refine pA fun Gw gZ=>?_;obtain⟨n,rfl,d,q⟩:=h;refine gZ ?_;refine⟨_,(zC (zh (xb (yE (zS (u0Q.mono (by first|decide|omega)) hr (zB (pv 0) (zB (z3C rfl u0P) zE))) (fun _=>rfl))) (zF yr) zP) (zF (zL (zZ y6 rfl u0j (by decide +kernel) (zB (pv 0) zE))))),?_⟩;walk_at "wp";have tl:=zU (dg n);have ln:=d.len;refine⟨dg n,100,rfl,⟨by omega,fun x hx=>by have:=d.all x hx;omega⟩,fun H1 g1=>?_⟩;have ef:z5n 100 (dg n)=true:=z6b d;rw[ef];walk_at "wp";have e:=intText_digits (x:=tx (dg n)) (by rw[zj];exact d.all) (by rw[zj];exact d.ne) (by omega);rw[zj,d.val] at e;exact⟨_,n,rfl,e,by omega,q _ g1⟩
noncomputable def xh (u:T3) (short:Bool):List (List Nat):=if short=true/\u.2.2=1 then [dg u.1,dg u.2.1] else [dg u.1,dg u.2.1,dg u.2.2]
noncomputable def jA (u:T3) (short:Bool):List Nat:=glu 58 (xh u short)
noncomputable def WOk (u:T3):Prop:=DgOk u.1/\DgOk u.2.1/\DgOk u.2.2
theorem vx {u:T3} (h:WOk u) (short:Bool) {c:Nat} (hc:c<48∨57<c):∀p∈xh u short,c∉p:=fun p hp=>by
 unfold xh at hp;split at hp
 ·simp only [u3w,u4B,or_false] at hp;rcases hp with rfl|rfl
  ·exact xf h.1.all hc
  ·exact xf h.2.1.all hc
 ·simp only [u3w,u4B,or_false] at hp;rcases hp with rfl|rfl|rfl
  ·exact xf h.1.all hc
  ·exact xf h.2.1.all hc
  ·exact xf h.2.2.all hc
noncomputable def qj:Sp:=fun vs H Q _=>∃(u:T3) (short:Bool),vs=[.str (tx (jA u short))]/\WOk u/\∀(p:Addr) (H':Hp),Same H H'->H' p=some (wA u)->Q (.ref p) H'
theorem vw {u:T3} (h:WOk u) (short:Bool):(jA u short).length<=310:=by
 have a:=h.1.len;have b:=h.2.1.len;have c:=h.2.2.len;unfold jA xh;split <;> simp [glu] <;> omega
theorem z3Y (T:TF K mg "read_waking" jP) (u0D:mg "len" = none) (u1t:mg "tuple" = none) (u1E:Has P w K mg base 2 "read_number" ["text"] xm):Has P w K mg base 3 "read_waking" ["word"] qj:=by
 refine T.has qk (fun _ _ _ _ _ _=>L2.bnd1 fun _=>rfl) (fun vs H Q E h=>?_) (fun f cdv A outer s H vs Q E hr h=>?_)
 ·refine pA fun Gx fA=>?_;obtain⟨u,short,rfl,_⟩:=h;refine fA ?_;rfl
 refine pA fun Gy fB=>?_;obtain⟨u,short,rfl,hu,q⟩:=h;refine fB ?_;refine⟨_,(zC (z1x (i:=1) qk.nd rfl (Or.inl rfl) (CompSc.none (own:=["part"]) (by decide +kernel) (by decide +kernel) rfl (by decide +kernel)) rfl (yQ (xx u5D u5N PySem.F.type_str_split z7g (pv 0) (zB zM zE))) (fun _ _ _=>(zd (i:=0) (show (["part"]:List Str).Nodup from by decide +kernel) rfl (Or.inl rfl) (Or.inr rfl))) (fun _ _ _=>yx) (fun _ _ _=>(zS (u1E.mono (by first|decide|omega)) hr (zB (pv 0) zE)))) (zC (zh (zR yX (zf zo rfl u0D u4n (zB (pv 1) zE)) zG (zV _)) (zF (yy (xx u4v u5P u5Q yu (pv 1) (zB zG zE)))) zP) (zC (zh (zR z4k (zf zo rfl u0D u4n (zB (pv 1) zE)) zG (zV _)) (zF yr) zP) (zF (zL (zZ z3q rfl u1t (by decide +kernel) (zB (pv 1) zE))))))),?_⟩;have wl:=vw hu short;have tl:=zU (jA u short);have es:Txt.split (tx (jA u short)) (u3t ":")=(xh u short).map tx:=by
  rw[y1L];exact z1b (by decide) rfl (by unfold xh;split <;> simp) (vx hu short (.inr (by decide)))
 walk_at "wp";have e1:(u3t ":").length=1:=by rw[y1L];rfl
 refine⟨rfl,_,_,rfl,rfl,by rw[e1];rfl,by omega,fun D nD=>?_⟩;rw[es];obtain⟨ns,en,ed,el⟩:∃ns:List Int,xh u short=ns.map dg/\(∀n∈ns,DgOk n)/\(ns=[u.1,u.2.1]/\u.2.2=1∨ns=[u.1,u.2.1,u.2.2]):=by
  unfold xh;split
  ·rename_i c
   exact⟨[u.1,u.2.1],rfl,fun n hn=>by
    simp only [u3w,u4B,or_false] at hn;rcases hn with rfl|rfl
    ·exact hu.1
    ·exact hu.2.1,.inl ⟨rfl,c.2⟩⟩
  ·exact⟨[u.1,u.2.1,u.2.2],rfl,fun n hn=>by
    simp only [u3w,u4B,or_false] at hn;rcases hn with rfl|rfl|rfl
    ·exact hu.1
    ·exact hu.2.1
    ·exact hu.2.2,.inr rfl⟩
 have ln:ns.length<=3:=by rcases el with⟨e,_⟩|e <;> rw[e] <;> simp
 rw[en];have gD:=zJ nD (.lst (((ns.map dg).map tx).map V.str));have hD:=zH (H:=H) (a:=D) (o:=.lst (((ns.map dg).map tx).map V.str));generalize upd H D (.lst (((ns.map dg).map tx).map V.str))=H1 at gD hD ⊢;refine⟨⟨_,SqL.of hD⟩,?_⟩;obtain⟨Sv,hSv⟩:∃Sv:St->Prop,Sv=fun σ=>∃o1,σ=[o1]:=⟨_,rfl⟩
 obtain⟨Pv,hPv⟩:∃Pv:Addr->Nat->List V->Hp->Prop,Pv=fun D2 i ys H2=>H1 D2=none/\Same H1 H2/\ys=(ns.take i).map V.int:=⟨_,rfl⟩
 refine yR (xs:=((ns.map dg).map tx).map V.str) Sv Pv (by rw[hSv];exact⟨none,rfl⟩) (fun D2 hD2=>?_) (fun D2 i ys H2 hD2 h=>?_) (fun D2 i x ys σ H2 hx hi hs hD2 hy h=>?_) (fun D2 ys H2 hD2 h=>?_)
 ·rw[hPv];exact⟨hD2,zJ hD2 _,rfl⟩
 ·rw[hPv] at h;exact SqL.of (h.2.1 _ _ hD)
 ·rw[hSv] at hs;rw[hPv] at h;obtain⟨o1,rfl⟩:=hs;refine pA fun Gz fE=>?_;obtain⟨nD2,g,rfl⟩:=h;refine fE ?_;rw[List.map_map,List.map_map,u4T] at hx;refine pA fun Ga hU=>?_;obtain⟨n,hn,rfl⟩:=u4e.mp hx;refine hU ?_;simp only [u3z] at hi;walk_at "wp";refine⟨n,rfl,ed n (u4F hn),fun H3 g3=>?_⟩;have hD3:=g3 _ _ hD2;refine CompP.mk hD3 hy (by rw[u4Q];omega) (by rw[hSv];exact⟨_,rfl⟩) (by
   rw[hPv];refine⟨nD2,(g.trans g3).write nD2 _,?_⟩;rw[u4N,hn];simp)
 rw[hPv] at h;refine pA fun Gb hV=>?_;obtain⟨nD2,g,rfl⟩:=h;refine hV ?_;rw[u3z,u3z,u3z,u4b] at hD2;have G:=gD.trans g;have fD:H D2=none:=gD.free nD2;rcases el with⟨rfl,el⟩|rfl
 ·refine⟨_,_,rfl,.inl (SqL.of hD2),fun _=>⟨.inl ⟨rfl,_,SqL.of hD2⟩,D2,_,_,rfl,rfl,hD2,by rw[u4Q];simp,?_⟩,fun c=>absurd rfl c⟩;refine⟨_,_,rfl,.inl (SqL.of zH),fun c=>absurd rfl c,fun _=>⟨_,_,rfl,.inl ⟨SqL.of zH,fun p np=>?_⟩⟩⟩;refine q p _ ((G.write fD _).trans (zJ np _)) ?_;rw[zH];show some (HO.tup [V.int u.1,V.int u.2.1,V.int 1])=some (HO.tup [V.int u.1,V.int u.2.1,V.int u.2.2]);rw[el]
 ·refine⟨_,_,rfl,.inl (SqL.of hD2),fun c=>absurd c (by simp),fun _=>⟨_,_,rfl,.inl (SqL.of hD2),fun c=>absurd rfl c,fun _=>⟨_,_,rfl,.inl ⟨SqL.of hD2,fun p np=>?_⟩⟩⟩⟩;exact q p _ (G.trans (zJ np _)) zH
noncomputable def j7 (ws:List T3) (short:Bool):List Nat:=if ws=[] then y0J else glu 32 (ws.map fun u=>jA u short)
theorem z7r {c:Nat} {p:List Nat} {ps:List (List Nat)} {x:Nat} {r:List Nat} (e:p=x::r):∃r',glu c (p::ps)=x::r':=by
 subst e;cases ps with
 | nil=>exact⟨r,rfl⟩
 | cons q ps=>exact⟨_,rfl⟩
theorem y2K {ws:List T3} {short:Bool} (ne:ws≠[]) (h:∀u∈ws,WOk u):tx (j7 ws short)≠u3t "never" :=fun e=>by
 cases ws with
 | nil=>exact ne rfl
 | cons u ws=>
  obtain⟨c0,r0,e0⟩:∃c r,dg u.1=c::r:=by
   cases e:dg u.1 with
   | nil=>exact absurd e (h u (by simp)).1.ne
   | cons c r=>exact⟨c,r,rfl⟩
  have hc:=(h u (by simp)).1.all c0 (by rw[e0];simp);have ew:∃r,jA u short=c0::r:=by
   unfold jA xh;split <;> exact z7r e0
  obtain⟨r1,ew⟩:=ew;obtain⟨r2,ep⟩:∃r,j7 (u::ws) short=c0::r:=by
   unfold j7;rw[if_neg (by simp),u4j];exact z7r ew
  have e2:=congrArg (fun z:Str=>z.cps.toList) e;simp only [zj,ep] at e2;have en:(u3t "never").cps.toList=[110,101,118,101,114]:=by decide +kernel
  rw[en] at e2;injection e2 with e3;omega
theorem z8K {u:T3} (h:WOk u) (short:Bool):32∉jA u short:=by
 have f:=vx h short (c:=32) (.inl (by decide));unfold jA;generalize xh u short=ps at f
 induction ps with
 | nil=>simp [glu]
 | cons p ps ih=>
  cases ps with
  | nil=>exact f p (by simp)
  | cons q r=>
   show 32∉p++58::glu 58 (q::r);intro m;rcases u4H.mp m with z|z
   ·exact f p (by simp) z
   ·rcases u3w.mp z with z|z
    ·exact absurd z (by decide)
    ·exact ih (fun x hx=>f x (by simp [hx])) z
theorem z4d {ws:List T3} (h:∀u∈ws,WOk u) (l:ws.length<=12) (short:Bool):(j7 ws short).length<=5000:=by
 unfold j7;split
 ·show y0J.length<=5000;decide +kernel
 ·have:=z3i (c:=32) (M:=310) (ps:=ws.map fun u=>jA u short) fun p hp=>by
   refine pA fun Gc gB=>?_;obtain⟨u,hu,rfl⟩:=u4l.mp hp;refine gB ?_;exact vw (h u hu) short
  rw[u3z] at this;omega
noncomputable def wm:Sp:=fun vs H Q _=>∃(ws:List T3) (short:Bool),vs=[.str (tx (j7 ws short))]/\ws.length<=12/\(∀u∈ws,WOk u)/\(∀u∈ws,isW u=true)/\∀(D:Addr) (xs:List V) (H':Hp),Same H H'->H D=none->H' D=some (.lst xs)->Pl H' xs ws->Q (.ref D) H'
theorem z6R (T:TF K mg "read_plan" qr) (u0D:mg "len" = none) (u0v:CI mg "MOST_WAKINGS" 12) (u2F:Has P w K mg base 3 "read_waking" ["word"] qj) (u3b:Has P w K mg base 2 "plan_of" ["rows"] (z1e K)):Has P w K mg base 4 "read_plan" ["text"] wm:=by
 refine T.has wz (fun _ _ _ _ _ _=>L2.bnd1 fun _=>rfl) (fun vs H Q E h=>?_) (fun f cdv A outer s H vs Q E hr h=>?_)
 ·refine pA fun Gd gC=>?_;obtain⟨ws,short,rfl,_⟩:=h;refine gC ?_;rfl
 refine pA fun Ge gE=>?_;obtain⟨ws,short,rfl,lw,hk,hw,q⟩:=h;refine gE ?_;refine⟨_,(zC (zh (zR yX (pv 0) zM (zV _)) (zF (zL (yV zE))) zP) (zC (zQ (i:=1) wz.nd rfl (Or.inl rfl) (xx u5D u5N PySem.F.type_str_split z7g (pv 0) (zB zM zE))) (zC (zh (zR y2X (zf zo rfl u0D u4n (zB (pv 1) zE)) (z3C rfl u0v) (zV _)) (zF yr) zP) (zF (zL (zS (u3b.mono (by first|decide|omega)) hr (zB (yz (CompSc.none (own:=["word"]) (by decide +kernel) (by decide +kernel) rfl (by decide +kernel)) rfl (yQ (pv 1)) (fun _ _ _=>(zd (i:=0) (show (["word"]:List Str).Nodup from by decide +kernel) rfl (Or.inl rfl) (Or.inr rfl))) (fun _ _ _=>yx) (fun _ _ _=>(zS (u2F.mono (by first|decide|omega)) hr (zB (pv 0) zE)))) zE))))))),?_⟩;have pl:=z4d hk lw short;have tl:=zU (j7 ws short);by_cases e:ws=[]
 ·subst e;have e2:tx (j7 [] short)=u3t "never" :=y2c;rw[e2];walk_at "wp";refine⟨rfl,_,rfl,fun _ D nD=>q D [] _ (zJ nD _) nD zH .nil,fun c=>absurd (decide_eq_true rfl) c⟩
 ·have ne:=y2K (short:=short) e hk;walk_at "wp";refine⟨rfl,_,rfl,fun c=>absurd (by have:=of_decide_eq_true c;injection this) ne,fun _=>?_⟩;have es:Txt.split (tx (j7 ws short)) (u3t " ")=(ws.map fun u=>jA u short).map tx:=by
   rw[z2H];refine z1b (by decide) (by unfold j7;rw[if_neg e]) (by simpa using e) fun p hp=>?_;refine pA fun Gf gG=>?_;obtain⟨u,hu,rfl⟩:=u4l.mp hp;refine gG ?_;exact z8K (hk u hu) short
  have e1:(u3t " ").length=1:=by rw[z2H];rfl
  refine⟨rfl,_,_,rfl,rfl,by rw[e1];rfl,by omega,fun D nD=>?_⟩;rw[es];have gD:=zJ nD (.lst (((ws.map fun u=>jA u short).map tx).map V.str));have hD:=zH (H:=H) (a:=D) (o:=.lst (((ws.map fun u=>jA u short).map tx).map V.str));generalize upd H D (.lst (((ws.map fun u=>jA u short).map tx).map V.str))=H1 at gD hD ⊢;have ln:(((ws.map fun u=>jA u short).map tx).map V.str).length=ws.length:=by simp only [u3z]
  refine⟨_,_,rfl,.inl (SqL.of hD),fun c=>by rw[ln] at c;omega,fun _=>⟨⟨_,SqL.of hD⟩,?_⟩⟩;obtain⟨Sv,hSv⟩:∃Sv:St->Prop,Sv=fun σ=>∃o1,σ=[o1]:=⟨_,rfl⟩
  obtain⟨Pv,hPv⟩:∃Pv:Addr->Nat->List V->Hp->Prop,Pv=fun D2 i ys H2=>H1 D2=none/\Same H1 H2/\Pl H2 ys (ws.take i):=⟨_,rfl⟩
  refine yR (xs:=((ws.map fun u=>jA u short).map tx).map V.str) Sv Pv (by rw[hSv];exact⟨none,rfl⟩) (fun D2 hD2=>?_) (fun D2 i ys H2 hD2 h=>?_) (fun D2 i x ys σ H2 hx hi hs hD2 hy h=>?_) (fun D2 ys H2 hD2 h=>?_)
  ·rw[hPv];exact⟨hD2,zJ hD2 _,.nil⟩
  ·rw[hPv] at h;exact SqL.of (h.2.1 _ _ hD)
  ·rw[hSv] at hs;rw[hPv] at h;obtain⟨o1,rfl⟩:=hs;refine pA fun Gg gH=>?_;obtain⟨nD2,g,hP⟩:=h;refine gH ?_;rw[List.map_map,List.map_map,u4T] at hx;refine pA fun Gh gI=>?_;obtain⟨u,hn,rfl⟩:=u4e.mp hx;refine gI ?_;rw[ln] at hi;walk_at "wp";refine⟨u,short,rfl,hk u (u4F hn),fun p H3 g3 hp=>?_⟩;have hD3:=g3 _ _ hD2;have hP3:Pl H3 (ys++[.ref p]) (ws.take i++[u]):=(hP.same g3).snoc hp;refine CompP.mk hD3 hy (by rw[u4Q];omega) (by rw[hSv];exact⟨_,rfl⟩) (by
    rw[hPv];refine⟨nD2,(g.trans g3).write nD2 _,?_⟩;rw[u4N,hn];exact hP3.upd hD3)
  ·rw[hPv] at h;refine pA fun Gi gJ=>?_;obtain⟨nD2,g,hP⟩:=h;refine gJ ?_;rw[ln,u4b] at hP;have G:=gD.trans g;refine⟨D2,ys,ws,rfl,SqL.of hD2,hP,hw,fun D3 nD3=>?_⟩;exact q D3 ys _ (G.trans (zJ nD3 _)) (G.free nD3) zH (hP.updN nD3)
theorem y1K {σ:St} {H:Hp} {Q:VK} {K:u3q} {a:Addr} {xs:List V} {g:TG} {tt:TT} {te:TE} {own:List Str} {fr:List Nat} (Sv:St->Prop) (Pv:Addr->Nat->List V->Hp->Prop) (hS:Sv (st0 own fr σ))
  (h0:∀D,H D=none->Pv D 0 [] (upd H D (.lst []))) (hl:∀D i ys H',H' D=some (.lst ys)->Pv D i ys H'->SqT K H' a xs)
  (hs:∀D i x ys σ H',xs[i]?=some x->i<xs.length->Sv σ->H' D=some (.lst ys)->ys.length<=i->Pv D i ys H'->g x σ H' fun σ2 H2=>tt σ2 H2 fun b H3=>if b=true then te σ2 H3 fun y H4=>CompP Sv Pv D i σ2 y H4 else we Sv Pv D (i+1) σ2 H3)
  (hd:∀D ys H',H' D=some (.lst ys)->Pv D xs.length ys H'->Q (.ref D) H'):z1M (Itt K a) g tt te own fr σ H Q:=by
 intro D hD;refine⟨fun i m σ H=>m=xs.length-i/\i<=xs.length/\we Sv Pv D i σ H,⟨_,rfl,u4q _,hS,[],zH,u3y _,h0 D hD⟩,?_⟩;rintro i m σ1 H1 ⟨rfl,hi,hs1,ys,hy,hy2,p⟩;have q:=hl D i ys H1 hy p;by_cases hlt:i<xs.length
 ·refine .inr ⟨⟨xs,xs[i],q,by simp [hlt]⟩,we Sv Pv D (i+1),fun σ' H' p'=>⟨xs.length-(i+1),by omega,rfl,hlt,p'⟩,fun x H' y=>?_⟩;obtain⟨e,y⟩:=y;subst e;exact hs D i x ys σ1 _ (y xs q) hlt hs1 hy hy2 p
 ·have e:i=xs.length:=by omega
  subst e;exact .inl ⟨⟨xs,q,u3y _⟩,hd D ys H1 hy p⟩
noncomputable def jc:Sp:=fun vs H Q _=>∃(p:Addr) (u:T3),vs=[.ref p]/\H p=some (wA u)/\WOk u/\∀(H':Hp),Same H H'->Q (.str (tx (jA u true))) H'
theorem z1T (T:TF K mg "shown_waking" xo) (u0I:mg "str" = none):Has P w K mg base 1 "shown_waking" ["waking"] jc:=by
 refine T.has je (fun _ _ _ _ _ _=>L2.bnd1 fun _=>rfl) (fun vs H Q E h=>?_) (fun f cdv A outer s H vs Q E hr h=>?_)
 ·refine pA fun Gj gK=>?_;obtain⟨p,u,rfl,_⟩:=h;refine gK ?_;rfl
 refine pA fun Gk gL=>?_;obtain⟨p,u,rfl,hp,hu,q⟩:=h;refine gL ?_;refine⟨_,(zC (zQ (i:=1) je.nd rfl (Or.inl rfl) (z3B (zR yX (zY zg (pv 0) zG (fun _ _=>rfl)) zG (zV _)) (xU y5i (pv 0) kE (xc zG)) (pv 0))) (zF (zL (xx u5D PySem.F.slot_str_join PySem.F.type_str_join z6H zM (zB (yz (CompSc.none (own:=["number"]) (by decide +kernel) (by decide +kernel) rfl (by decide +kernel)) rfl (y3b (pv 1)) (fun _ _ _=>(zd (i:=0) (show (["number"]:List Str).Nodup from by decide +kernel) rfl (Or.inl rfl) (Or.inr rfl))) (fun _ _ _=>yx) (fun _ _ _=>(zZ zx rfl u0I (by decide +kernel) (zB (pv 0) zE)))) zE))))),?_⟩;walk_at "wp";have rest:∀(a:Addr) (ns:List Int) (σ:St) (H1:Hp),Same H H1->H1 a=some (.tup (ns.map V.int))->xh u true=ns.map dg->ns.length<=3->(∀n∈ns,DgOk n)->z1M (Itt K a) (qf 0) z9S (tCB (fun xs H Q=>∃i,xs=[V.int i]/\i.natAbs.log2<1920/\Q (V.str (u3t (toString i))) H) (z5t (z6r 0) y1b)) [u3t "number"] [] σ H1 fun x H1=>∃sep a ys,V.str (u3t ":")=V.str sep/\[x]=[V.ref a]/\SqL K H1 a (List.map V.str ys)/\Array.foldl (fun x1 x2=>x1+x2.length+sep.length) 0 ys.toArray<=16777216/\(u5q sep ys).length<=16777216/\Q (V.str (u5q sep ys)) H1:=by
  intro a ns σ H1 g1 ha en ln hd;obtain⟨Sv,hSv⟩:∃Sv:St->Prop,Sv=fun σ=>∃o1,σ=[o1]:=⟨_,rfl⟩
  obtain⟨Pv,hPv⟩:∃Pv:Addr->Nat->List V->Hp->Prop,Pv=fun D2 i ys H2=>H1 D2=none/\Same H1 H2/\ys=(((ns.take i).map dg).map tx).map V.str:=⟨_,rfl⟩
  refine y1K (xs:=ns.map V.int) Sv Pv (by rw[hSv];exact⟨none,rfl⟩) (fun D2 hD2=>?_) (fun D2 i ys H2 hD2 h=>?_) (fun D2 i x ys σ H2 hx hi hs hD2 hy h=>?_) (fun D2 ys H2 hD2 h=>?_)
  ·rw[hPv];exact⟨hD2,zJ hD2 _,rfl⟩
  ·rw[hPv] at h;exact SqT.of (h.2.1 _ _ ha)
  ·rw[hSv] at hs;rw[hPv] at h;obtain⟨o1,rfl⟩:=hs;refine pA fun Gm gM=>?_;obtain⟨nD2,g,rfl⟩:=h;refine gM ?_;rw[u4T] at hx;refine pA fun Gn gN=>?_;obtain⟨n,hn,rfl⟩:=u4e.mp hx;refine gN ?_;rw[u3z] at hi;walk_at "wp";refine⟨n,rfl,(hd n (u4F hn)).sz,?_⟩;rw[ym];refine CompP.mk hD2 hy (by rw[u4Q];omega) (by rw[hSv];exact⟨_,rfl⟩) (by
    rw[hPv];refine⟨nD2,g.write nD2 _,?_⟩;rw[u4N,hn];simp)
  ·rw[hPv] at h;refine pA fun Go gO=>?_;obtain⟨nD2,g,rfl⟩:=h;refine gO ?_;rw[u3z,u4b] at hD2;have jo:=y0X (c:=58) (M:=100) (ps:=ns.map dg) (fun p hp=>by
    refine pA fun Gp gP=>?_;obtain⟨n,hn,rfl⟩:=u4l.mp hp;refine gP ?_;exact (hd n hn).len) (by rw[u3z];omega)
   rw[u4Q] at jo;refine⟨_,D2,_,rfl,rfl,SqL.of hD2,by rw[y1L];exact jo.1,by rw[y1L];exact jo.2,?_⟩;rw[y1L,z3h,←en];exact q _ (g1.trans g)
 refine⟨p,_,_,_,rfl,rfl,SqT.of hp,ze (j:=2) rfl,rfl,_,rfl,fun c=>?_,fun c=>?_⟩
 ·have c1:u.2.2=1:=by
   have:=of_decide_eq_true c;injection this
  refine⟨p,_,rfl,SqT.of hp,fun z=>absurd z.2 (by show ¬HT.sIx 3 3 (some 2)=3;decide),fun p2 n2=>⟨rfl,p2,rfl,⟨_,SqT.of zH⟩,?_⟩⟩;refine rest p2 [u.1,u.2.1] _ _ (zJ n2 _) zH (by unfold xh;rw[if_pos ⟨rfl,c1⟩];rfl) (by simp) fun n hn=>?_;simp only [u3w,u4B,or_false] at hn;rcases hn with rfl|rfl
  ·exact hu.1
  ·exact hu.2.1
 ·have c1:u.2.2≠1:=fun z=>c (decide_eq_true (by rw[z]));refine⟨rfl,⟨_,SqT.of hp⟩,?_⟩;refine rest p [u.1,u.2.1,u.2.2] _ _ (Same.refl _) hp (by unfold xh;rw[if_neg fun z=>c1 z.2];rfl) (by simp) fun n hn=>?_;simp only [u3w,u4B,or_false] at hn;rcases hn with rfl|rfl|rfl
  ·exact hu.1
  ·exact hu.2.1
  ·exact hu.2.2
noncomputable def kN (K:u3q):Sp:=fun vs H Q _=>∃(a:Addr) (xs:List V) (ws:List T3),vs=[.ref a]/\SqL K H a xs/\Pl H xs ws/\ws.length<=12/\(∀u∈ws,WOk u)/\∀(H':Hp),Same H H'->Q (.str (tx (j7 ws true))) H'
theorem z5E (T:TF K mg "shown_plan" ji) (u0D:mg "len" = none) (u1u:Has P w K mg base 1 "shown_waking" ["waking"] jc):Has P w K mg base 2 "shown_plan" ["plan"] (kN K):=by
 refine T.has z2m (fun _ _ _ _ _ _=>L2.bnd1 fun _=>rfl) (fun vs H Q E h=>?_) (fun f cdv A outer s H vs Q E hr h=>?_)
 ·refine pA fun Gq gQ=>?_;obtain⟨a,xs,ws,rfl,_⟩:=h;refine gQ ?_;rfl
 refine pA fun Gr gR=>?_;obtain⟨a,xs,ws,rfl,hS,hP,lw,hu,q⟩:=h;refine gR ?_;refine⟨_,(zC (zh (zR yX (zf zo rfl u0D u4n (zB (pv 0) zE)) zG (zV _)) (zF (zL zM)) zP) (zF (zL (xx u5D PySem.F.slot_str_join PySem.F.type_str_join z6H zM (zB (yz (CompSc.none (own:=["waking"]) (by decide +kernel) (by decide +kernel) rfl (by decide +kernel)) rfl (yQ (pv 0)) (fun _ _ _=>(zd (i:=0) (show (["waking"]:List Str).Nodup from by decide +kernel) rfl (Or.inl rfl) (Or.inr rfl))) (fun _ _ _=>yx) (fun _ _ _=>(zS (u1u.mono (by first|decide|omega)) hr (zB (pv 0) zE)))) zE))))),?_⟩;walk_at "wp";refine⟨_,_,rfl,.inl hS,fun c=>?_,fun c=>?_⟩
 ·have e:ws=[]:=by
   apply u5H;rw[←hP.1];omega
  have:=q H (Same.refl _);rw[e] at this;exact this
 have ne:ws≠[]:=fun e=>c (by rw[hP.1,e];rfl);refine⟨rfl,⟨_,hS⟩,?_⟩;obtain⟨Sv,hSv⟩:∃Sv:St->Prop,Sv=fun σ=>∃o1,σ=[o1]:=⟨_,rfl⟩
 obtain⟨Pv,hPv⟩:∃Pv:Addr->Nat->List V->Hp->Prop,Pv=fun D2 i ys H2=>H D2=none/\Same H H2/\ys=(((ws.take i).map fun u=>jA u true).map tx).map V.str:=⟨_,rfl⟩
 refine yR (xs:=xs) Sv Pv (by rw[hSv];exact⟨none,rfl⟩) (fun D2 hD2=>?_) (fun D2 i ys H2 hD2 h=>?_) (fun D2 i x ys σ H2 hx hi hs hD2 hy h=>?_) (fun D2 ys H2 hD2 h=>?_)
 ·rw[hPv];exact⟨hD2,zJ hD2 _,rfl⟩
 ·rw[hPv] at h;exact h.2.1.seq hS
 ·rw[hSv] at hs;rw[hPv] at h;obtain⟨o1,rfl⟩:=hs;refine pA fun Gs gU=>?_;obtain⟨nD2,g,rfl⟩:=h;refine gU ?_;refine pA fun Gu gW=>?_;obtain⟨p,u,e1,rfl,e3⟩:=hP.at hx;refine gW ?_;rw[hP.1] at hi;walk_at "wp";refine⟨p,u,rfl,g _ _ e3,hu u (u4F e1),fun H3 g3=>?_⟩;have hD3:=g3 _ _ hD2;refine CompP.mk hD3 hy (by rw[u4Q];omega) (by rw[hSv];exact⟨_,rfl⟩) (by
   rw[hPv];refine⟨nD2,(g.trans g3).write nD2 _,?_⟩;rw[u4N,e1];simp)
 ·rw[hPv] at h;refine pA fun Gv gX=>?_;obtain⟨nD2,g,rfl⟩:=h;refine gX ?_;rw[hP.1,u4b] at hD2;have jo:=y0X (c:=32) (M:=310) (ps:=ws.map fun u=>jA u true) (fun p hp=>by
   refine pA fun Gw gZ=>?_;obtain⟨u,hm,rfl⟩:=u4l.mp hp;refine gZ ?_;exact vw (hu u hm) true) (by rw[u3z];omega)
  rw[u4Q] at jo;refine⟨_,D2,_,rfl,rfl,SqL.of hD2,by rw[z2H];exact jo.1,by rw[z2H];exact jo.2,?_⟩;rw[z2H,z3h];have:=q _ g;unfold j7 at this;rw[if_neg ne] at this;exact this
noncomputable def z9J (l:List Nat) (i:Nat):List (Str×V):=[("text",.str (tx l)),("place",.int (i:Int))]
theorem vp (l:List Nat) (i:Nat):(z9J l i).lookup ("text" : Str)=some (.str (tx l)):=by
 unfold z9J;rfl
theorem xK (l:List Nat) (i:Nat):(z9J l i).lookup ("place" : Str)=some (.int (i:Int)):=by
 unfold z9J;rfl
theorem jD {l:List Nat} {i:Nat} {m:Str} (h:(m == ("text" : Str))=false:=by decide +kernel) (k:(m == ("place" : Str))=false:=by decide +kernel):(z9J l i).lookup m=none:=by
 unfold z9J;simp only [List.lookup,h,k]
theorem y0y (l:List Nat) (i j:Nat):vL ("place" : Str) (.int (j:Int)) (z9J l i)=z9J l j:=by
 unfold z9J vL;rw[if_neg (by decide +kernel)];unfold vL;rw[if_pos rfl]
noncomputable def y3u (C:Addr) (H:Hp) (a:Addr) (l:List Nat) (i:Nat):Prop:=∃dx,H a=some (.ins C dx (z9J l i))
structure Rd (C:Addr) (H H':Hp) (a:Addr) (l:List Nat) (i:Nat):Prop where
 at_:y3u C H' a l i
 same:∀b o,b≠a->H b=some o->H' b=some o
theorem Rd.upd {C:Addr} {H:Hp} {a dx:Addr} {l:List Nat} {i:Nat}:Rd C H (upd H a (.ins C dx (z9J l i))) a l i:=⟨⟨dx,zH⟩,fun b o hb e=>by rw[zb hb];exact e⟩
theorem Rd.trans {C:Addr} {H H1 H2:Hp} {a:Addr} {l:List Nat} {i j:Nat} (g:Rd C H H1 a l i) (h:Rd C H1 H2 a l j):Rd C H H2 a l j:=⟨h.at_,fun b o hb e=>h.same b o hb (g.same b o hb e)⟩
theorem Rd.free {C:Addr} {H H1:Hp} {a b:Addr} {l:List Nat} {i:Nat} (g:Rd C H H1 a l i) (h:H1 b=none) (hb:b≠a):H b=none:=by
 cases e:H b with
 | none=>rfl
 | some o=>rw[g.same b o hb e] at h;cases h
theorem Rd.new {C:Addr} {H H1:Hp} {a p:Addr} {l:List Nat} {i:Nat} (g:Rd C H H1 a l i) (h:H1 p=none) (o:HO):Rd C H (L2.upd H1 p o) a l i:=by
 obtain⟨dx,e⟩:=g.at_;refine⟨⟨dx,by rw[zb (zW e h)];exact e⟩,fun b o' hb e'=>?_⟩;have:=g.same b o' hb e';rw[zb (zW this h)];exact this
theorem Rd.write {C:Addr} {H H1:Hp} {a D:Addr} {l:List Nat} {i:Nat} (g:Rd C H H1 a l i) (n:H D=none) (h:D≠a) (o:HO):Rd C H (L2.upd H1 D o) a l i:=by
 obtain⟨dx,e⟩:=g.at_;refine⟨⟨dx,by rw[zb (Ne.symm h)];exact e⟩,fun b o' hb e'=>?_⟩;rw[zb (zW e' n)];exact g.same b o' hb e'
structure RdTx (K:u3q) (C:Addr):Prop where
 cl:Cls K C
 nT:NoAttr K C "text"
 nP:NoAttr K C "place"
noncomputable def jd (C:Addr):Sp:=fun vs H Q _=>∃(a:Addr) (l y:List Nat) (i:Nat),vs=[.ref a,.str (tx y)]/\y3u C H a l i/\l.length<=100000/\i<=l.length/\y.length≠0/\y.length<=10/\(¬(l.drop i).take y.length=y->Q (.bl false) H)/\((l.drop i).take y.length=y->∀H',Rd C H H' a l (i+y.length)->Q (.bl true) H')
theorem y2x {C:Addr} (X:RdTx K C) (T:TM K C "passes" "PaperReader.passes" ya) (u0D:mg "len" = none):HasM P w K mg base 1 C "passes" ["self", "signs"] (jd C):=by
 refine T.has jg (fun _ _ _ _ _ _=>L2.bnd2 fun _ _=>rfl) (fun vs H Q E h=>?_) (fun f cdv A outer s H vs Q E hr h=>?_)
 ·refine pA fun Gx fA=>?_;obtain⟨a,l,y,i,rfl,_⟩:=h;refine fA ?_;rfl
 refine pA fun Gy fB=>?_;obtain⟨a,l,y,i,rfl,⟨dx,hd⟩,ll,li,y0,y1,q0,q1⟩:=h;refine fB ?_;refine⟨_,(zC (zh (xb (yE (xx u5D u6f PySem.F.type_str_startswith z8d (jC (pv 0) rfl) (zB (pv 1) (zB (jC (pv 0) rfl) zE))) (fun _=>rfl))) (zF (zL qe)) zP) (zC (z4e (pv 0) (zf yJ rfl u0D u4n (zB (pv 1) zE)) y3h) (zF (zL qe)))),?_⟩;walk_at "wp";have fi:PySem.fromIndex (tx l).length (i:Int)=i:=by
  unfold PySem.fromIndex;rw[if_neg (by omega)];omega
 refine⟨a,C,dx,_,_,rfl,hd,X.cl,X.nT,vp l i,rfl,a,C,dx,_,_,rfl,hd,X.cl,X.nP,xK l i,_,_,_,rfl,rfl,?_⟩;rw[fi,z6z l y i y0];refine⟨fun c=>q0 (of_decide_eq_false c),fun c=>?_⟩;have c':(l.drop i).take y.length=y:=by
  rw[Bool.not_eq_false] at c;exact of_decide_eq_true c
 refine⟨a,C,dx,_,_,rfl,hd,X.cl,X.nP,xK l i,tx y,rfl,by rw[zU];omega,_,_,rfl,rfl,dx,_,hd,by show 2<1000;decide,?_⟩;have e:(i:Int)+((tx y).length:Int)=((i+y.length:Nat):Int):=by rw[zU];omega
 rw[e,y0y];exact q1 c' _ Rd.upd
noncomputable def v8 (C:Addr):Sp:=fun vs H Q _=>∃(a:Addr) (l y:List Nat) (i:Nat),vs=[.ref a,.str (tx y)]/\y3u C H a l i/\l.length<=100000/\i<=l.length/\y.length≠0/\y.length<=10/\(l.drop i).take y.length=y/\∀H',Rd C H H' a l (i+y.length)->Q .non H'
theorem y4m {C:Addr} (u0C:Cls K C) (T:TM K C "needs" "PaperReader.needs" yk) (u0K:HasM P w K mg base 1 C "passes" ["self", "signs"] (jd C)):HasM P w K mg base 2 C "needs" ["self", "signs"] (v8 C):=by
 refine T.has qc (fun _ _ _ _ _ _=>L2.bnd2 fun _ _=>rfl) (fun vs H Q E h=>?_) (fun f cdv A outer s H vs Q E hr h=>?_)
 ·refine pA fun Gz fE=>?_;obtain⟨a,l,y,i,rfl,_⟩:=h;refine fE ?_;rfl
 refine pA fun Ga hU=>?_;obtain⟨a,l,y,i,rfl,hd,ll,li,y0,y1,c,q⟩:=h;refine hU ?_;have hd':=hd;obtain⟨dx,hd⟩:=hd;refine⟨_,(zF (zh (xb (yE (qD (pv 0) u0C (u0K.mono (by first|decide|omega)) hr (zB (pv 1) zE)) (fun _=>rfl))) (zF yr) zP)),?_⟩;walk_at "wp";refine⟨a,dx,_,rfl,hd,jD,a,l,y,i,rfl,hd',ll,li,y0,y1,fun z=>absurd c z,fun _ H1 g1=>?_⟩;walk_at "wp";exact q H1 g1
theorem y4t {c:Nat}:(u4s (u3t "0123456789") ⟨#[c]⟩ 0 (u3t "0123456789").length 1).isEmpty=false ↔ 48<=c/\c<=57:=by
 have h:=StrLaws.found_one (u3t "0123456789") c;rw[show (u3t "0123456789").cps.toList=u6O 48 10 by decide +kernel] at h;rw[←u6B,h,decide_eq_true_eq,List.mem_range'_1];omega
noncomputable def y4c (r:List Nat):Prop:=∀c,r[0]?=some c->¬(48<=c/\c<=57)
noncomputable def z5v (C:Addr):Sp:=fun vs H Q _=>∃(a:Addr) (l r:List Nat) (i:Nat) (n:Int),vs=[.ref a]/\y3u C H a l i/\l.length<=100000/\l.drop i=dg n++r/\DgOk n/\y4c r/\∀H',Rd C H H' a l (i+(dg n).length)->Q (.int n) H'
theorem z3c {C:Addr} (X:RdTx K C) (T:TM K C "next_number" "PaperReader.next_number" yL) (u0D:mg "len" = none) (u0k:CS mg "FIGURES" "0123456789") (u1E:Has P w K mg base 2 "read_number" ["text"] xm):HasM P w K mg base 3 C "next_number" ["self"] (z5v C):=by
 refine T.has y8 (fun _ _ _ _ _ _=>L2.bnd1 fun _=>rfl) (fun vs H Q E h=>?_) (fun f cdv A outer s H vs Q E hr h=>?_)
 ·refine pA fun Gb hV=>?_;obtain⟨a,l,r,i,n,rfl,_⟩:=h;refine hV ?_;rfl
 refine pA fun Gc gB=>?_;obtain⟨a,l,r,i,n,rfl,hd,ll,el,dk,nf,q⟩:=h;refine gB ?_;have hd':=hd;obtain⟨dx,hd⟩:=hd;refine⟨_,(zC (zQ (i:=1) y8.nd rfl (Or.inl rfl) (jC (pv 0) rfl)) (zC (yP (kY u4p (PW.pt (z4b (zR wV (jC (pv 0) rfl) (zf yJ rfl u0D u4n (zB (jC (pv 0) rfl) zE)) (zV _)) (z0b (zR z0i (zY y3g (jC (pv 0) rfl) (jC (pv 0) rfl) (fun _ _=>rfl)) (y4W rfl u0k) rfl)))) (zF (z4e (pv 0) zG y3h)))) (zF (zL (zS (u1E.mono (by first|decide|omega)) hr (zB (xU z4N (jC (pv 0) rfl) (xc (pv 1)) (xc (jC (pv 0) rfl))) zE)))))),?_⟩;walk_at "wp";have ld:=congrArg List.length el;rw[u4w,u3s] at ld;have tl:=zU l;have n1:=List.length_pos_iff.mpr dk.ne;have at_:∀j:Nat,(l.drop i)[j]?=l[i+j]?:=fun j=>by rw[List.getElem?_drop]
 refine⟨a,C,dx,_,_,rfl,hd,X.cl,X.nP,xK l i,?_⟩;refine⟨fun σ H'=>σ=[some (.ref a),some (.int (i:Int))]/\Rd C H H' a l (i+(dg n).length),?_,?_⟩
 ·obtain⟨W,hW⟩:∃W:Nat->St->Hp->Prop,W=fun m σ H'=>∃j:Nat,σ=[some (.ref a),some (.int (i:Int))]/\Rd C H H' a l (i+j)/\j<=(dg n).length/\m=(dg n).length-j:=⟨_,rfl⟩
  refine⟨W,⟨_,by rw[hW];exact⟨0,rfl,⟨hd',fun b o _ e=>e⟩,u4q _,rfl⟩⟩,fun m σ H' h=>?_⟩;rw[hW] at h;refine pA fun Gd gC=>?_;obtain⟨j,rfl,g,hj,rfl⟩:=h;refine gC ?_;obtain⟨dy,he⟩:=g.at_;walk_at "wp";refine⟨a,C,dy,_,_,rfl,he,X.cl,X.nP,xK l (i+j),?_⟩;walk_at "wp";refine⟨a,C,dy,_,_,rfl,he,X.cl,X.nT,vp l (i+j),tx l,rfl,by omega,fun c=>?_,fun c=>?_⟩
  ·have c':i+j<l.length:=by omega
   refine⟨a,C,dy,_,_,rfl,he,X.cl,X.nT,vp l (i+j),a,C,dy,_,_,rfl,he,X.cl,X.nP,xK l (i+j),_,_,l[i+j],rfl,rfl,by rw[tl];show _<=16777216;omega,by rw[zj];exact ze (u4A c'),_,_,rfl,rfl,?_⟩;have gj:(dg n++r)[j]?=some l[i+j]:=by rw[←el,at_,u4A c']
   refine⟨fun z=>⟨_,fun _ _ h=>h,a,C,dy,_,_,rfl,he,X.cl,X.nP,xK l (i+j),_,_,rfl,rfl,dy,_,he,by show 2<1000;decide,(dg n).length-(j+1),?_,?_⟩,fun z=>?_⟩
   ·have fg:=y4t.mp z;by_cases k:j<(dg n).length
    ·omega
    ·have ej:j=(dg n).length:=by omega
     have gk:r[0]?=some l[i+j]:=by
      rw[u4f (by omega),show j-(dg n).length=0 by omega] at gj;exact gj
     exact absurd fg (nf _ gk)
   ·have e:((i+j:Nat):Int)+1=((i+(j+1):Nat):Int):=by omega
    rw[e,y0y,hW];have fg:=y4t.mp z;refine⟨j+1,rfl,g.trans Rd.upd,?_,rfl⟩;by_cases k:j<(dg n).length
    ·omega
    ·have ej:j=(dg n).length:=by omega
     have gk:r[0]?=some l[i+j]:=by
      rw[u4f (by omega),show j-(dg n).length=0 by omega] at gj;exact gj
     exact absurd fg (nf _ gk)
   ·by_cases k:j<(dg n).length
    ·rw[u4k k] at gj;exact absurd (y4t.mpr (dk.all _ (u4F gj))) z
    ·have ej:j=(dg n).length:=by omega
     rw[ej] at g;exact g
  ·have ej:j=(dg n).length:=by omega
   rw[ej] at g;exact g
 rintro σ H' ⟨rfl,g⟩;obtain⟨dy,he⟩:=g.at_;walk_at "wp";refine⟨a,C,dy,_,_,rfl,he,X.cl,X.nT,vp l _,?_⟩;walk_at "wp";refine⟨a,C,dy,_,_,rfl,he,X.cl,X.nP,xK l _,_,rfl,tx l,rfl,by rw[tl];show _<=16777216;omega,?_⟩;have es:u6e (tx l) (some (i:Int)) (some ((i+(dg n).length:Nat):Int))=tx (dg n):=by
  rw[kT (by omega) (by omega),el];have:i+(dg n).length-i=(dg n).length:=by omega
  rw[this,u6V]
 rw[es];exact⟨n,rfl,dk,fun H2 g2=>q H2 (g.trans ⟨⟨dy,g2 _ _ he⟩,fun b o _ e=>g2 b o e⟩)⟩
mutual
theorem z7b {N:Addr->Prop} {H H':Hp} (t1:∀b xs,H b=some (.tup xs)->H' b=some (.tup xs)) (t2:∀b xs,N b->H b=some (.lst xs)->H' b=some (.lst xs)):∀ {v:V} {p:Pap},PapIn K N H v p->PapIn K N H' v p
 | _,_,.inn h=>.inn (t1 _ _ h)
 | _,_,.par h hl n hz hs=>.par (t1 _ _ h) (t2 _ _ n hl) n hz (qF t1 t2 hs)
theorem qF {N:Addr->Prop} {H H':Hp} (t1:∀b xs,H b=some (.tup xs)->H' b=some (.tup xs)) (t2:∀b xs,N b->H b=some (.lst xs)->H' b=some (.lst xs)):∀ {xs:List V} {ps:List Pap},PapsIn K N H xs ps->PapsIn K N H' xs ps
 | _,_,.nil=>.nil
 | _,_,.cons h hs=>.cons (z7b t1 t2 h) (qF t1 t2 hs)
end
mutual
theorem z4i {N:Addr->Prop} {H:Hp} {D:Addr} (n:H D=none):∀ {v:V} {p:Pap},PapIn K N H v p->PapIn K (fun b=>N b/\b≠D) H v p
 | _,_,.inn h=>.inn h
 | _,_,.par h hl nn hz hs=>.par h hl ⟨nn,zW hl n⟩ hz (z1y n hs)
theorem z1y {N:Addr->Prop} {H:Hp} {D:Addr} (n:H D=none):∀ {xs:List V} {ps:List Pap},PapsIn K N H xs ps->PapsIn K (fun b=>N b/\b≠D) H xs ps
 | _,_,.nil=>.nil
 | _,_,.cons h hs=>.cons (z4i n h) (z1y n hs)
end
theorem Rd.tup {C:Addr} {H H':Hp} {a:Addr} {l:List Nat} {i j:Nat} (g:Rd C H H' a l j) (ha:y3u C H a l i) (b:Addr) (xs:List V) (e:H b=some (.tup xs)):H' b=some (.tup xs):=by
 obtain⟨dx,ha⟩:=ha;exact g.same b _ (fun k=>by rw[k,ha] at e;cases e) e
theorem Rd.lst {C:Addr} {H H':Hp} {a:Addr} {l:List Nat} {i j:Nat} (g:Rd C H H' a l j) (ha:y3u C H a l i) (b:Addr) (xs:List V) (e:H b=some (.lst xs)):H' b=some (.lst xs):=by
 obtain⟨dx,ha⟩:=ha;exact g.same b _ (fun k=>by rw[k,ha] at e;cases e) e
theorem qY {l A B:List Nat} {i:Nat} (h:l.drop i=A++B):l.drop (i+A.length)=B:=by
 rw[←List.drop_drop,h,List.drop_left]
theorem z2z:∀ps qs:List Pap,vC (ps++qs)=vC ps++vC qs
 | [],qs=>rfl
 | p::ps,qs=>by simp only [u5G,vC,z2z ps qs,u4m]
theorem y2J (p:Pap):∃c r,ptx p=c::r/\(c=105∨c=98):=by
 cases p with
 | inn k=>exact⟨105,_,by simp only [ptx,inL,u5G];rfl,.inl rfl⟩
 | par b ps=>exact⟨98,_,by simp only [ptx,byL,u5G];rfl,.inr rfl⟩
theorem z1v (ps:List Pap) (r:List Nat):y4c (vC ps++(clL++r)):=fun c e=>by
 cases ps with
 | nil=>
  have:c=41:=by simpa [vC,clL] using e.symm
  omega
 | cons p ps=>
  have:c=44:=by simpa [vC,cmL] using e.symm
  omega
noncomputable def z0G (K:u3q) (C:Addr) (d:Nat):Sp:=fun vs H Q _=>∃(a:Addr) (l r:List Nat) (i:Nat) (ab:Int) (p:Pap),vs=[.ref a,.int ab]/\y3u C H a l i/\l.length<=100000/\l.drop i=ptx p++r/\POk p/\p.kn<=1000/\p.dep<d/\0<=ab/\ab+p.dep<=40/\y4c r/\∀(v:V) (H':Hp),Rd C H H' a l (i+(ptx p).length)->PapIn K (fun b=>H b=none) H' v p->Q v H'
noncomputable def z7G (K:u3q) (C:Addr) (d:Nat):Sp:=fun vs H Q _=>∃(a:Addr) (l r:List Nat) (i:Nat) (ab:Int) (ps:List Pap),vs=[.ref a,.int ab]/\y3u C H a l i/\l.length<=100000/\l.drop i=wR ps++(clL++r)/\POks ps/\Pap.kns ps<=1000/\Pap.deps ps<d/\0<=ab/\ab+Pap.deps ps<=40/\∀(D:Addr) (xs:List V) (H':Hp),Rd C H H' a l (i+(wR ps).length+1)->H D=none->H' D=some (.lst xs)->PapsIn K (fun b=>H b=none) H' xs ps->Q (.ref D) H'
theorem z3b {C:Addr} {d:Nat} (u0C:Cls K C) (T:TM K C "next_papers" "PaperReader.next_papers" zt) (u0K:HasM P w K mg base 1 C "passes" ["self", "signs"] (jd C)) (u0T:HasM P w K mg base 2 C "needs" ["self", "signs"] (v8 C)) (u0M:HasM P w K mg base (2*d+4) C "next_paper" ["self", "above"] (z0G K C d)):HasM P w K mg base (2*d+5) C "next_papers" ["self", "above"] (z7G K C d):=by
 refine T.has y7 (fun _ _ _ _ _ _=>L2.bnd2 fun _ _=>rfl) (fun vs H Q E h=>?_) (fun f cdv A outer s H vs Q E hr h=>?_)
 ·refine pA fun Ge gE=>?_;obtain⟨a,l,r,i,ab,ps,rfl,_⟩:=h;refine gE ?_;rfl
 refine pA fun Gf gG=>?_;obtain⟨a,l,r,i,ab,ps,rfl,hd,ll,el,ok,kp,hdp,ab0,ab1,q⟩:=h;refine gG ?_;have lp:=u5I (Pap.kns_len ps) kp;have hd':=hd;obtain⟨dx,hd⟩:=hd;have ld:=congrArg List.length el;rw[u4w,u3s,u3s] at ld;have c1:clL.length=1:=rfl;refine⟨_,(zC (yP (zh (yE (qD (pv 0) u0C (u0K.mono (by first|decide|omega)) hr (zB zM zE)) (fun _=>rfl)) (zF (zL (yV zE))) zP)) (zC (zQ (i:=2) y7.nd rfl (Or.inl rfl) (yV (zB (qD (pv 0) u0C (u0M.mono (by first|decide|omega)) hr (zB (pv 1) zE)) zE))) (zC (kY u4p (yE (qD (pv 0) u0C (u0K.mono (by first|decide|omega)) hr (zB zM zE)) (fun _=>rfl)) (zF (yy (xx u4v u5P u5Q yu (pv 2) (zB (qD (pv 0) u0C (u0M.mono (by first|decide|omega)) hr (zB (pv 1) zE)) zE))))) (zC (yy (qD (pv 0) u0C (u0T.mono (by first|decide|omega)) hr (zB zM zE))) (zF (zL (pv 2))))))),?_⟩;walk_at "wp";refine⟨fun σ H'=>σ=[some (.ref a),some (.int ab),none]/\H'=H/\ps≠[],?_,?_⟩
 ·walk_at "wp";rw[y1O];refine⟨a,dx,_,rfl,hd,jD,a,l,clL,i,rfl,hd',ll,by omega,by decide,by decide,fun c=>?_,fun c H1 g1=>?_⟩
  ·walk_at "wp";intro e;refine c ?_;rw[el,e];rfl
  ·walk_at "wp";intro D nD;cases ps with
   | nil=>
    obtain⟨dy,h1⟩:=g1.at_;exact q D [] _ (by simpa [wR,clL] using g1.new nD (.lst [])) (g1.free nD fun e=>by rw[e,h1] at nD;cases nD) zH .nil
   | cons p ps=>
    exfalso;refine pA fun Gg gH=>?_;obtain⟨ch,rr,e1,e2⟩:=y2J p;refine gH ?_;rw[el] at c;simp only [wR,e1,u5G,clL] at c;have:ch=41:=by simpa using c
    omega
 rintro σ H' ⟨rfl,rfl,ne⟩;obtain⟨p,ps',rfl⟩:∃p ps',ps=p::ps':=by
  cases ps with
  | nil=>exact absurd rfl ne
  | cons p ps'=>exact⟨p,ps',rfl⟩
 have okp:=ok.cons;simp only [Pap.deps] at hdp ab1;simp only [Pap.kns] at kp;have e0:l.drop i=ptx p++(vC ps'++(clL++r)):=by
  rw[el];simp only [wR,u4m]
 walk_at "wp";refine⟨a,dx,_,rfl,hd,jD,a,l,_,i,ab,p,rfl,hd',ll,e0,okp.1,by omega,by omega,ab0,by omega,z1v _ _,fun v H1 g1 hv D nD=>?_⟩;obtain⟨dy,h1⟩:=g1.at_;have nDa:D≠a:=fun e=>by rw[e,h1] at nD;cases nD
 have fD:=g1.free nD nDa;have g2:=g1.new nD (.lst [v]);have hD2:=zH (H:=H1) (a:=D) (o:=.lst [v]);have gD:=zJ nD (.lst [v]);have hv2:PapIn K (fun b=>H' b=none/\b≠D) (upd H1 D (.lst [v])) v p:=(z4i nD hv).mono gD;generalize upd H1 D (.lst [v])=H2 at g2 hD2 hv2 ⊢;clear hv gD nD h1 g1;obtain⟨W,hW⟩:∃W:Nat->St->Hp->Prop,W=fun m σ H3=>∃(k:Nat) (xs:List V),σ=[some (.ref a),some (.int ab),some (.ref D)]/\Rd C H' H3 a l (i+(wR (p::ps'.take k)).length)/\H3 D=some (.lst xs)/\PapsIn K (fun b=>H' b=none/\b≠D) H3 xs (p::ps'.take k)/\k<=ps'.length/\m=ps'.length-k:=⟨_,rfl⟩
 refine⟨W,⟨_,by rw[hW];exact⟨0,[v],rfl,by simpa [wR,vC] using g2,hD2,.cons hv2 .nil,u4q _,rfl⟩⟩,fun m σ H3 h=>?_⟩;rw[hW] at h;refine pA fun Gh gI=>?_;obtain⟨k,xs,rfl,g3,hD3,hx3,hk,rfl⟩:=h;refine gI ?_;have e3:l.drop (i+(wR (p::ps'.take k)).length)=vC (ps'.drop k)++(clL++r):=by
  refine qY ?_;rw[e0];simp only [wR,u4m];rw[←u4m (vC (ps'.take k)),←z2z,List.take_append_drop]
 have hd3:=g3.at_;obtain⟨dz,h3⟩:=g3.at_;have ld3:=congrArg List.length e3;rw[u4w,u3s,u3s] at ld3;walk_at "wp";rw[y3o];refine⟨a,dz,_,rfl,h3,jD,a,l,cmL,_,rfl,hd3,ll,by omega,by decide,by decide,fun c=>?_,fun c H4 g4=>?_⟩
 ·walk_at "wp";have ek:k=ps'.length:=by
   rcases Nat.lt_or_ge k ps'.length with z|z
   ·exfalso;refine c ?_;rw[e3,u6C z];simp only [vC,u4m];exact u6V
   ·omega
  subst ek;rw[List.drop_length] at e3;rw[u4b] at e3 g3 hx3 hd3 h3 ld3;rw[y1O];have e4:l.drop (i+(wR (p::ps')).length)=clL++r:=by rw[e3];rfl
  refine⟨a,dz,_,rfl,h3,jD,a,l,clL,_,rfl,hd3,ll,by omega,by decide,by decide,by rw[e4];exact u6V,fun H4 g4=>?_⟩;exact q D xs H4 (g3.trans g4) fD (g4.lst hd3 _ _ hD3) (qF (g4.tup hd3) (fun b xs _ e=>g4.lst hd3 b xs e) (hx3.imp fun b hb=>hb.1))
 ·walk_at "wp";have hk2:k<ps'.length:=by
   rcases Nat.lt_or_ge k ps'.length with z|z
   ·exact z
   ·exfalso;rw[e3,List.drop_eq_nil_of_le z] at c;simp [vC,clL,cmL] at c
  obtain⟨q0,rest,eq0⟩:∃q0 rest,ps'.drop k=q0::rest:=⟨_,_,u6C hk2⟩
  have mq:q0∈ps':=u6R (by rw[eq0];simp);have eg:ps'[k]?=some q0:=by
   have:=congrArg (fun x=>x[0]?) eq0;simpa using this
  have e4:l.drop (i+(wR (p::ps'.take k)).length+cmL.length)=ptx q0++(vC rest++(clL++r)):=by
   refine qY ?_;rw[e3,eq0];simp only [vC,u4m]
  have hd4:=g4.at_;obtain⟨d4,h4⟩:=g4.at_;have hD4:=g4.lst hd3 _ _ hD3;have dq:=Pap.dep_mem mq;refine⟨_,fun _ _ h=>h,.inl ⟨rfl,_,SqL.of hD4⟩,a,d4,_,rfl,h4,jD,a,l,_,_,ab,q0,rfl,hd4,ll,e4,okp.2.mem q0 mq,by have:=Pap.kn_mem mq;omega,by omega,ab0,by omega,z1v _ _,fun v5 H5 g5 hv5=>?_⟩;have hD5:=g5.lst hd4 _ _ hD4;have lx:=hx3.len;rw[u3x,u5F] at lx;rw[u3x] at lp;refine⟨D,xs,_,rfl,rfl,hD5,by rw[u4Q];omega,ps'.length-(k+1),by omega,?_⟩;rw[hW];have et:ps'.take (k+1)=ps'.take k++[q0]:=by rw[u4N,eg];rfl
  have el5:i+(wR (p::ps'.take k)).length+cmL.length+(ptx q0).length=i+(wR (p::ps'.take (k+1))).length:=by
   rw[et];simp only [wR,z2z,vC,u3s,u4G];omega
  have g6:=(g3.trans g4).trans g5;rw[el5] at g6;have hx5:=qF (g5.tup hd4) (fun b xs _ e=>g5.lst hd4 b xs e) (qF (g4.tup hd3) (fun b xs _ e=>g4.lst hd3 b xs e) hx3);have nn:∀b,H4 b=none->H' b=none/\b≠D:=fun b hb=>⟨(g3.trans g4).free hb (fun e=>by rw[e,h4] at hb;cases hb),fun e=>by rw[e,hD4] at hb;cases hb⟩
  refine⟨k+1,xs++[v5],rfl,g6.write fD nDa _,zH,?_,hk2,rfl⟩;rw[et];exact (hx5.snoc (hv5.imp nn)).write hD5 fun l hl=>hl.2
theorem z5I {C:Addr} {d:Nat} (u0C:Cls K C) (T:TM K C "next_paper" "PaperReader.next_paper" zm) (u0Y:CI mg "MOST_DEPTH" 40) (u0K:HasM P w K mg base 1 C "passes" ["self", "signs"] (jd C)) (u0T:HasM P w K mg base 2 C "needs" ["self", "signs"] (v8 C)) (u0d:HasM P w K mg base 3 C "next_number" ["self"] (z5v C)) (u1F:HasM P w K mg base (2*d+5) C "next_papers" ["self", "above"] (z7G K C d)):HasM P w K mg base (2*(d+1)+4) C "next_paper" ["self", "above"] (z0G K C (d+1)):=by
 refine T.has yK (fun _ _ _ _ _ _=>L2.bnd2 fun _ _=>rfl) (fun vs H Q E h=>?_) (fun f cdv A outer s H vs Q E hr h=>?_)
 ·refine pA fun Gi gJ=>?_;obtain⟨a,l,r,i,ab,p,rfl,_⟩:=h;refine gJ ?_;rfl
 refine pA fun Gj gK=>?_;obtain⟨a,l,r,i,ab,p,rfl,hd,ll,el,ok,kp,hdp,ab0,ab1,nf,q⟩:=h;refine gK ?_;have hd':=hd;obtain⟨dx,hd⟩:=hd;have ld:=congrArg List.length el;rw[u4w,u3s] at ld;refine⟨_,(zC (zh (yE (qD (pv 0) u0C (u0K.mono (by first|decide|omega)) hr (zB zM zE)) (fun _=>rfl)) (zF (zL (yF (zB zM (zB (z9x (pv 0) u0C (u0d.mono (by first|decide|omega)) hr) zE))))) zP) (zC (zh (zR yX (pv 1) (z3C rfl u0Y) (zV _)) (zF yr) zP) (zC (yy (qD (pv 0) u0C (u0T.mono (by first|decide|omega)) hr (zB zM zE))) (zC (zQ (i:=2) yK.nd rfl (Or.inl rfl) (z9x (pv 0) u0C (u0d.mono (by first|decide|omega)) hr)) (zC (yy (qD (pv 0) u0C (u0T.mono (by first|decide|omega)) hr (zB zM zE))) (zF (zL (yF (zB zM (zB (pv 2) (zB (qD (pv 0) u0C (u1F.mono (by first|decide|omega)) hr (zB (zN xI (pv 1) zG) zE)) zE))))))))))),?_⟩;walk_at "wp";rw[y3i];have lp:3<=(ptx p).length:=by
  cases p <;> simp [ptx,inL,byL] <;> omega
 refine⟨a,dx,_,rfl,hd,jD,a,l,inL,i,rfl,hd',ll,by omega,by decide,by decide,fun c=>?_,fun c H1 g1=>?_⟩
 ·cases p with
  | inn k=>
   exfalso;refine c ?_;rw[el];simp only [ptx,u4m];exact u6V
  | par b ps=>
   obtain⟨okb,oks⟩:=ok.par;simp only [Pap.dep] at hdp ab1;simp only [Pap.kn] at kp;have e1:l.drop i=byL++(dg b++(opL++(wR ps++(clL++r)))):=by
    rw[el];simp only [ptx,u4m]
   walk_at "wp";refine⟨fun z=>by omega,fun _=>⟨a,dx,_,rfl,hd,jD,?_⟩⟩;rw[y3q];refine⟨a,l,byL,i,rfl,hd',ll,by omega,by decide,by decide,by rw[e1];exact u6V,fun H1 g1=>?_⟩;have hd1:=g1.at_;obtain⟨d1,h1⟩:=g1.at_;have e2:=qY e1;refine⟨a,d1,_,rfl,h1,jD,a,l,_,_,b,rfl,hd1,ll,e2,okb,(fun c e=>by
    have:c=32:=by simpa [opL] using e.symm
    omega),fun H2 g2=>?_⟩
   have hd2:=g2.at_;obtain⟨d2,h2⟩:=g2.at_;have e3:=qY e2;have l3:=congrArg List.length e3;rw[u4w,u3s] at l3;have o2:opL.length=2:=rfl;refine⟨a,d2,_,rfl,h2,jD,?_⟩;rw[y3e];refine⟨a,l,opL,_,rfl,hd2,ll,by omega,by decide,by decide,by rw[e3];exact u6V,fun H3 g3=>?_⟩;have hd3:=g3.at_;obtain⟨d3,h3⟩:=g3.at_;have e4:=qY e3;refine⟨a,d3,_,rfl,h3,jD,a,l,r,_,ab+1,ps,rfl,hd3,ll,e4,oks,by omega,by omega,by omega,by omega,fun D xs H4 g4 nD hD hx t nt=>?_⟩;have G3:=(g1.trans g2).trans g3;have nn:∀x,H3 x=none->H x=none:=fun x hx=>G3.free hx fun e=>by rw[e,h3] at hx;cases hx
   have G4:=G3.trans g4;have gt:=zJ nt (.tup [V.str "parted",.int b,.ref D]);have ep:i+byL.length+(dg b).length+opL.length+(wR ps).length+1=i+(ptx (.par b ps)).length:=by
    simp only [ptx,u3s,clL,u3x,u4G];omega
   rw[ep] at G4;refine q (.ref t) _ (G4.new nt _) (.par zH (gt _ _ hD) (nn D nD) ?_ ((hx.imp nn).mono gt));have:=hx.len;have:=Pap.kns_len ps;omega
 ·cases p with
  | par b ps=>
   exfalso;rw[el] at c;simp [ptx,inL,byL] at c
  | inn k=>
   have e1:l.drop i=inL++(dg k++r):=by
    rw[el];simp only [ptx,u4m]
   walk_at "wp";have hd1:=g1.at_;obtain⟨d1,h1⟩:=g1.at_;refine⟨a,d1,_,rfl,h1,jD,a,l,r,_,k,rfl,hd1,ll,qY e1,ok.inn,nf,fun H2 g2 t nt=>?_⟩;have ep:i+inL.length+(dg k).length=i+(ptx (.inn k)).length:=by
    simp only [ptx,u3s];omega
   have G2:=g1.trans g2;rw[ep] at G2;exact q (.ref t) _ (G2.new nt _) (.inn zH)
theorem z6T {C:Addr} (T:TM K C "next_paper" "PaperReader.next_paper" zm):HasM P w K mg base 4 C "next_paper" ["self", "above"] (z0G K C 0):=by
 refine T.has (k:=3) yK (fun _ _ _ _ _ _=>L2.bnd2 fun _ _=>rfl) (fun vs H Q E h=>?_) (fun f cdv A outer s H vs Q E hr h=>?_)
 ·refine pA fun Gk gL=>?_;obtain⟨_,_,_,_,_,_,_,_,_,_,_,_,h,_⟩:=h;refine gL ?_;exact absurd h (u6K _)
 ·refine pA fun Gm gM=>?_;obtain⟨_,_,_,_,_,_,_,_,_,_,_,_,h,_⟩:=h;refine gM ?_;exact absurd h (u6K _)
theorem z2D {C:Addr} (cl:Cls K C) (T1:TM K C "next_paper" "PaperReader.next_paper" zm) (T2:TM K C "next_papers" "PaperReader.next_papers" zt) (u0Y:CI mg "MOST_DEPTH" 40) (G1:HasM P w K mg base 1 C "passes" ["self", "signs"] (jd C)) (G2:HasM P w K mg base 2 C "needs" ["self", "signs"] (v8 C)) (G3:HasM P w K mg base 3 C "next_number" ["self"] (z5v C)):∀d:Nat,HasM P w K mg base (2*d+4) C "next_paper" ["self", "above"] (z0G K C d)
 | 0=>z6T T1
 | d+1=>z5I cl T1 u0Y G1 G2 G3 (z3b cl T2 G1 G2 (z2D cl T1 T2 u0Y G1 G2 G3 d))
noncomputable def z7F (C:Addr):Sp:=fun vs H Q _=>∃(x dx:Addr) (l:List Nat),vs=[.ref x,.str (tx l)]/\H x=some (.ins C dx [])/\∀H',Rd C H H' x l 0->Q .non H'
theorem y4l {C:Addr} (X:RdTx K C) (T:TM K C "__init__" "PaperReader.__init__" yW):HasM P w K mg base 1 C "__init__" ["self", "text"] (z7F C):=by
 refine T.has jL (fun _ _ _ _ _ _=>L2.bnd2 fun _ _=>rfl) (fun vs H Q E h=>?_) (fun f cdv A outer s H vs Q E hr h=>?_)
 ·refine pA fun Gn gN=>?_;obtain⟨x,dx,l,rfl,_⟩:=h;refine gN ?_;rfl
 refine pA fun Go gO=>?_;obtain⟨x,dx,l,rfl,hx,q⟩:=h;refine gO ?_;refine⟨_,(zC (z9t (pv 0) (pv 1) rfl) (zF (z9t (pv 0) zG rfl))),?_⟩;walk_at "wp";refine⟨x,C,dx,[],rfl,hx,X.cl,X.nT,by decide,x,C,dx,_,rfl,zH,X.cl,X.nP,by show 1<1000;decide,?_⟩;have e:vL ("place" : Str) (.int 0) (vL ("text" : Str) (.str (tx l)) [])=z9J l 0:=by
  show (if ("text" : Str) = "place" then _ else (("text" : Str),V.str (tx l))::vL ("place" : Str) (.int 0) [])=_;rw[if_neg (by decide +kernel)];rfl
 rw[e];refine q _ ⟨⟨dx,zH⟩,fun b o hb e=>?_⟩;rw[zb hb,zb hb];exact e
noncomputable def z0F (K:u3q):Sp:=fun vs H Q _=>∃p:Pap,vs=[.str (tx (ptx p))]/\POk p/\p.kn<=800/\p.dep<=40/\∀(v:V) (H':Hp),Same H H'->PapIn K (fun b=>H b=none) H' v p->Q v H'
theorem z5F {C:Addr} (X:RdTx K C) (u0C:Cls K C) (u0w:u6d K C=true) (u0x:u5L K (.ref C)=true) (u0y:mg "PaperReader" = some (.ref C)) (T:TF K mg "read_paper" jm) (u0D:mg "len" = none) (u1R:HasM P w K mg base 1 C "__init__" ["self", "text"] (z7F C)) (u0M:HasM P w K mg base (2*41+4) C "next_paper" ["self", "above"] (z0G K C 41)):Has P w K mg base 87 "read_paper" ["text"] (z0F K):=by
 refine T.has jJ (fun _ _ _ _ _ _=>L2.bnd1 fun _=>rfl) (fun vs H Q E h=>?_) (fun f cdv A outer s H vs Q E hr h=>?_)
 ·refine pA fun Gp gP=>?_;obtain⟨p,rfl,_⟩:=h;refine gP ?_;rfl
 refine pA fun Gq gQ=>?_;obtain⟨p,rfl,ok,kp,dp,q⟩:=h;refine gQ ?_;refine⟨_,(zC (zQ (i:=1) jJ.nd rfl (Or.inl rfl) (y6p (u1R.mono (by first|decide|omega)) u0w u0x hr rfl u0y (zB (pv 0) zE))) (zC (zQ (i:=2) jJ.nd rfl (Or.inl rfl) (qD (pv 1) u0C (u0M.mono (by first|decide|omega)) hr (zB zG zE))) (zC (zh (zR z4k (jC (pv 1) rfl) (zf yJ rfl u0D u4n (zB (pv 0) zE)) (zV _)) (zF yr) zP) (zF (zL (pv 2)))))),?_⟩;have lp:=qC p ok;walk_at "wp";intro x dx nx ndx hne;refine⟨x,dx,ptx p,rfl,zH,fun H1 g1=>⟨rfl,?_⟩⟩;have hd1:=g1.at_;obtain⟨d1,h1⟩:=g1.at_;walk_at "wp";refine⟨x,d1,_,rfl,h1,jD,x,ptx p,[],0,0,p,rfl,hd1,by omega,by simp,ok,by omega,by omega,by decide,by omega,(fun c e=>by simp at e),fun v H2 g2 hv=>?_⟩;obtain⟨d2,h2⟩:=g2.at_;have S1:Same H H1:=fun b o e=>g1.same b o (zW e nx) (by rw[zb (zW e nx),zb (zW e ndx)];exact e);have S2:Same H H2:=fun b o e=>g2.same b o (zW e nx) (S1 b o e);walk_at "wp";refine⟨x,C,d2,_,_,rfl,h2,X.cl,X.nP,xK _ _,?_⟩;walk_at "wp";refine⟨tx (ptx p),rfl,by rw[zU];omega,?_⟩;rw[zU];refine⟨fun c=>absurd rfl c,fun _=>q v H2 S2 (hv.imp fun b hb=>S1.free hb)⟩
noncomputable def qP (K:u3q) (d:Nat):Sp:=fun vs H Q _=>∃(v:V) (p:Pap),vs=[v]/\PapIn K z3w H v p/\POk p/\p.kn<=800/\p.dep<d/\∀H',Same H H'->Q (.str (tx (ptx p))) H'
theorem y3N {d:Nat} {D:Addr} {xs:List V} {ps:List Pap} {own:List Str} {fr:List Nat} {σ:St} {H:Hp} {Q:VK} (hD:H D=some (.lst xs)) (hx:PapsIn K z3w H xs ps) (ok:POks ps) (kp:Pap.kns ps<=800) (dp:Pap.deps ps<d) (hst:st0 own fr σ=[none]) (hq:∀(F:Addr) (H':Hp),Same H H'->H F=none->H' F=some (.lst ((ps.map fun p=>tx (ptx p)).map V.str))->Q (.ref F) H') :
  z1M (Itl K D) (qf 0) z9S (z5u (qP K d) [] E0 (z5t (z6r 0) y1b)) own fr σ H Q:=by
 have ln:=Pap.kns_len ps;have lx:=hx.len;obtain⟨Sv,hSv⟩:∃Sv:St->Prop,Sv=fun σ=>∃o1,σ=[o1]:=⟨_,rfl⟩
 obtain⟨Pv,hPv⟩:∃Pv:Addr->Nat->List V->Hp->Prop,Pv=fun D2 i ys H2=>H D2=none/\Same H H2/\ys=((ps.take i).map fun p=>tx (ptx p)).map V.str:=⟨_,rfl⟩
 refine yR (xs:=xs) Sv Pv (by rw[hSv,hst];exact⟨none,rfl⟩) (fun D2 hD2=>?_) (fun D2 i ys H2 hD2 h=>?_) (fun D2 i x ys σ H2 hx' hi hs hD2 hy h=>?_) (fun D2 ys H2 hD2 h=>?_)
 ·rw[hPv];exact⟨hD2,zJ hD2 _,rfl⟩
 ·rw[hPv] at h;exact SqL.of (h.2.1 _ _ hD)
 ·rw[hSv] at hs;rw[hPv] at h;obtain⟨o1,rfl⟩:=hs;refine pA fun Gr gR=>?_;obtain⟨nD2,g,rfl⟩:=h;refine gR ?_;refine pA fun Gs gU=>?_;obtain⟨p,ep,hp⟩:=hx.at hx';refine gU ?_;have mp:=u4F ep;have k1:=Pap.kn_mem mp;have k2:=Pap.dep_mem mp;walk_at "wp";refine⟨x,p,rfl,hp.mono g,ok.mem p mp,by omega,by omega,fun H3 g3=>?_⟩;refine CompP.mk (g3 _ _ hD2) hy (by rw[u4Q];omega) (by rw[hSv];exact⟨_,rfl⟩) (by
   rw[hPv];refine⟨nD2,(g.trans g3).write nD2 _,?_⟩;rw[u4N,ep];simp)
 ·rw[hPv] at h;refine pA fun Gu gW=>?_;obtain⟨nD2,g,rfl⟩:=h;refine gW ?_;rw[lx,u4b] at hD2;exact hq D2 H2 g nD2 hD2
theorem z7s:∀(ps:List Pap) (k:Nat),POks ps->(ps.map fun p=>tx (ptx p)).foldl (· + ·.length+(tx cmL).length) k<=k+112*Pap.kns ps
 | [],k,_=>by simp
 | p::ps,k,h=>by
  have h1:=qC p h.cons.1;have h2:=z7s ps (k+(tx (ptx p)).length+(tx cmL).length) h.cons.2;have h3:cmL.length=2:=rfl;rw[u4j,List.foldl_cons];simp only [Pap.kns];simp only [zU] at h2 ⊢;omega
theorem y2q {ps:List Pap} (ok:POks ps) (kp:Pap.kns ps<=800):(ps.map fun p=>tx (ptx p)).toArray.foldl (· + ·.length+(tx cmL).length) 0<=16777216/\(u5q (tx cmL) (ps.map fun p=>tx (ptx p))).length<=16777216:=by
 have ln:=Pap.kns_len ps;constructor
 ·rw[List.foldl_toArray];have:=z7s ps 0 ok;omega
 ·rw[z7q,zU];have:=z2y ps ok;omega
theorem eE:Str.empty=tx []:=rfl
theorem z3X (T:TF K mg "shown_paper" jO):∀d:Nat,Has P w K mg base (d+1) "shown_paper" ["paper"] (qP K d):=by
 intro d
 induction d with
 | zero=>
  refine T.has xB (fun _ _ _ _ _ _=>L2.bnd1 fun _=>rfl) (fun vs H Q E h=>?_) (fun f cdv A outer s H vs Q E hr h=>?_)
  ·refine pA fun Gv gX=>?_;obtain⟨_,_,_,_,_,_,h,_⟩:=h;refine gX ?_;exact absurd h (u6K _)
  ·refine pA fun Gw gZ=>?_;obtain⟨_,_,_,_,_,_,h,_⟩:=h;refine gZ ?_;exact absurd h (u6K _)
 | succ d ih=>
 have u0L:=ih;refine T.has xB (fun _ _ _ _ _ _=>L2.bnd1 fun _=>rfl) (fun vs H Q E h=>?_) (fun f cdv A outer s H vs Q E hr h=>?_)
 ·refine pA fun Gx fA=>?_;obtain⟨v,p,rfl,_⟩:=h;refine fA ?_;rfl
 refine pA fun Gy fB=>?_;obtain⟨v,p,rfl,hv,ok,kp,dp,q⟩:=h;refine fB ?_;refine⟨_,(zC (zQ (i:=1) xB.nd rfl (Or.inl rfl) (zY zg (pv 0) zG (fun _ _=>rfl))) (zC (zh (zR yX (zY zg (pv 0) zG (fun _ _=>rfl)) zM (zV _)) (zF (zL (z0f (yl zM (yl (z0g (pv 1)) z4f))))) zP) (zC (zQ (i:=2) xB.nd rfl (Or.inl rfl) (xx u5D PySem.F.slot_str_join PySem.F.type_str_join z6H zM (zB (yz (CompSc.none (own:=["below"]) (by decide +kernel) (by decide +kernel) rfl (by decide +kernel)) rfl (yQ (zY zg (pv 0) zG (fun _ _=>rfl))) (fun _ _ _=>(zd (i:=0) (show (["below"]:List Str).Nodup from by decide +kernel) rfl (Or.inl rfl) (Or.inr rfl))) (fun _ _ _=>yx) (fun _ _ _=>(zS (u0L.mono (by first|decide|omega)) hr (zB (pv 0) zE)))) zE))) (zF (zL (z0f (yl zM (yl (z0g (pv 1)) (yl zM (yl (z0g (pv 2)) (yl zM z4f))))))))))),?_⟩;cases hv with
 | @inn b0 k hb=>
  have hT:SqT K H b0 [.str "in",.int k]:=SqT.of hb;have dk:=ok.inn;have l1:=dk.len;have e1:Str.empty++tx inL=tx inL:=by rw[eE,yd];rfl
  have e2:tx inL++tx (dg k)=tx (ptx (.inn k)):=by rw[yd];simp only [ptx]
  have l2:(ptx (.inn k)).length<=1000:=by simp only [ptx,u3s,inL,u3x,u4G];omega
  walk_at "wp";refine⟨_,_,_,.int k,rfl,rfl,hT,rfl,_,_,_,.str "in",rfl,rfl,hT,rfl,rfl,_,rfl,fun _=>?_,fun c=>absurd (decide_eq_true rfl) c⟩;rw[y3i];refine⟨_,rfl,by rw[e1,zU];decide,.inl ⟨k,rfl,dk.sz,_,rfl,?_⟩⟩;rw[ym,e1,e2,zU];exact⟨by omega,by omega,q H (Same.refl H)⟩
 | @par b0 l bb zs ps hb hl _ lz hs=>
  have hT:SqT K H b0 [.str "parted",.int bb,.ref l]:=SqT.of hb;obtain⟨okb,oks⟩:=ok.par;simp only [Pap.dep] at dp;simp only [Pap.kn] at kp;have l1:=okb.len;have l2:=z2y ps oks;have e1:Str.empty++tx byL=tx byL:=by rw[eE,yd];rfl
  have e5:tx byL++tx (dg bb)++tx opL++tx (wR ps)++tx clL=tx (ptx (.par bb ps)):=by
   rw[yd,yd,yd,yd];simp only [ptx,u4m]
  walk_at "wp";refine⟨_,_,_,.int bb,rfl,rfl,hT,rfl,_,_,_,.str "parted",rfl,rfl,hT,rfl,rfl,_,rfl,fun c=>absurd (of_decide_eq_true c) (by decide +kernel),fun _=>⟨rfl,_,_,_,.ref l,rfl,rfl,hT,rfl,_,rfl,⟨_,SqL.of hl⟩,?_⟩⟩;refine y3N hl hs oks (by omega) (by omega) rfl fun F H1 g1 nF hF=>?_;have jt:=y2q oks (by omega:Pap.kns ps<=800);rw[y3o,y3q,y3e,y1O];refine⟨_,F,_,rfl,rfl,SqL.of hF,jt.1,jt.2,?_⟩;rw[z7q];have b3:byL.length=3:=rfl;have o2:opL.length=2:=rfl;have c1:clL.length=1:=rfl;refine⟨_,rfl,by rw[e1,zU];decide,.inl ⟨bb,rfl,okb.sz,_,rfl,?_⟩⟩;rw[ym,e1];refine⟨by rw[yd,zU,u3s];omega,_,rfl,by rw[yd,yd,zU,u3s,u3s];omega,.inr ⟨_,rfl,by rw[zU];omega,_,rfl,?_⟩⟩;refine⟨by rw[yd,yd,yd,zU,u3s,u3s,u3s];omega,_,rfl,?_⟩;rw[e5,zU];have l5:(ptx (.par bb ps)).length<=100000:=by
   simp only [ptx,u3s];omega
  exact⟨by omega,by omega,q H1 g1⟩
noncomputable def z7Q:Sp:=fun vs H Q _=>∃c:Int,vs=[.int c]/\u4d c<=2^21/\∀d:Int,0<=d->d<10^60->Q (.int d) H
theorem y0m (T:TF K mg "_law_big" z0V):Has P w K mg base 1 "_law_big" ["cell"] z7Q:=by
 refine T.has z8X (fun _ _ _ _ _ _=>L2.bnd1 fun _=>rfl) (fun vs H Q E h=>?_) (fun f cdv A outer s H vs Q E hr h=>?_)
 ·refine pA fun Gz fE=>?_;obtain⟨c,rfl,_⟩:=h;refine fE ?_;rfl
 refine pA fun Ga hU=>?_;obtain⟨c,rfl,hc,q⟩:=h;refine hU ?_;refine⟨_,(zF (zL (zN zi (zN xy (pv 0) zG) (zN y0C zG zG)))),?_⟩;walk_at "wp";have z0:=z4p (c*618033988749894848204586834365638117720309179805762862123) (show (0:Int)<10^60 by decide);exact⟨IntMulOk.of_le hc (intBits_le_iff.mpr (show (618033988749894848204586834365638117720309179805762862123:Int).natAbs<2^200 by decide)) (by decide),⟨by decide,by decide,by decide⟩,by decide,q _ z0.1 z0.2⟩
local macro_rules | `(tactic| walk_at "wpd")=>`(tactic| try simp only [z2N,z2a,z3Q,z2Z,z5s,wC,z2t,z0A,z9T,z2V,z2d,vn,z2P,vP,vS,kM,vZ,vY,y1l,z6q,z6p,z6v,z6s,z7V,y2I,y2H,z2v,z2u,vO,y1n,y3G,z7v,z7w,z2e,z6u,z2S,v7,z2R,vR,z6w,z2T,v3,z2L,z2U,v6,z6x,kL,z2Q,z7u,z2c,z7p,z6t,qN,vQ,z6y,z2b,vN,z3j,vo,z3k,z2W,vi,vh,vf,vg,ve,vj,z2O,vk,z3R,z3T,z3P,vd,vm,ko,z3S,z2X,z3M,vc,vX,z2Y,z2s,qU,vU,vW,jF,vT,vV,v4,z3N,L2.j8,z8A,vq,kx,u4j,List.map_nil,u3x,u4G,List.replicate,u5G,u5a,u5l,List.set_cons_zero,List.set_cons_succ,decide_eq_true_eq,u6B,decide_eq_false_iff_not,Bool.not_eq_eq_eq_not,Bool.not_true,Bool.not_false,u4Q,oV,reduceCtorEq,z7m,z7n,z7l,z7o,Nat.reduceAdd,Nat.reduceSub,Nat.reduceLeDiff,Nat.zero_add,true_and,and_true,forall_const,u5h,if_true,if_false,false_implies,true_implies,not_false_eq_true,not_true_eq_false,implies_true])
theorem y5t {ws us:List T3} {B:Int} (B1:1<=B) (hw:∀u∈ws,Wk u/\u.1<=B) (hu:∀u∈us,Wk u/\u.1<=B) (k:Int):1<=prd ws us k/\prd ws us k<=B*B:=by
 have g:∀ {l:List T3} (_:∀u∈l,Wk u/\u.1<=B) (i:Nat),1<=(l.getD i (1,0,1)).1/\(l.getD i (1,0,1)).1<=B:=fun {l} hl i=>by
  by_cases c:i<l.length
  ·rw[u4M,u4A c];exact⟨(hl _ (u5T c)).1.1,(hl _ (u5T c)).2⟩
  ·rw[u4M,u6I (by omega)];exact⟨Int.le_refl _,B1⟩
 have g1:=g hw (k/(us.length:Int)).toNat;have g2:=g hu (k%(us.length:Int)).toNat;unfold prd;generalize (ws.getD (k/(us.length:Int)).toNat (1,0,1)).1=a at g1 ⊢;generalize (us.getD (k%(us.length:Int)).toNat (1,0,1)).1=b at g2 ⊢;have p:∀x∈[a,b],1<=x:=fun x hx=>by
  simp only [u3w,u4B,or_false] at hx;rcases hx with rfl|rfl
  ·exact g1.1
  ·exact g2.1
 have m:=Int.mul_le_mul g1.2 g2.2 (by omega) (by omega);have ab:0<a*b:=Int.mul_pos (by omega) (by omega);refine⟨kj p,Int.le_trans (Int.le_of_dvd ab ((vG p).mpr fun x hx=>?_)) m⟩;simp only [u3w,u4B,or_false] at hx;rcases hx with rfl|rfl
 ·exact Int.dvd_mul_right _ _
 ·exact Int.dvd_mul_left _ _
mutual
theorem z7T {ws:List T3} (hl:ws.length<=1000):∀ {p:Pap} {s r:Int},p.kn<=1000->yB ws s r p=true->POk p
 | .inn k,s,r,_,h=>by
  simp only [yB,u4a,decide_eq_true_eq] at h;intro n hn;simp only [y0G,u3w,u4B,or_false] at hn;rw[hn];have e:(1000:Int)<10^100:=by decide +kernel
  exact z8y h.1 (by omega)
 | .par b ps,s,r,hk,h=>by
  simp only [yB,u4a,decide_eq_true_eq] at h;simp only [Pap.kn] at hk;have hn:=Pap.kns_len ps;have e:(1000:Int)<10^100:=by decide +kernel
  intro n hn2;simp only [y0G,u3w] at hn2;rcases hn2 with rfl|hn2
  ·exact z8y (by omega) (by omega)
  ·exact z4Y hl (by omega) h.2.2 n hn2
theorem z4Y {ws:List T3} (hl:ws.length<=1000):∀ {ps:List Pap} {s r b:Int} {c:Nat},Pap.kns ps<=1000->yM ws s r b c ps=true->POks ps
 | [],s,r,b,c,_,_=>fun n hn=>by simp [z4m] at hn
 | p::ps,s,r,b,c,hk,h=>by
  simp only [yM,u4a] at h;simp only [Pap.kns] at hk;intro n hn;simp only [z4m,u4H] at hn;rcases hn with hn|hn
  ·exact z7T hl (by omega) h.1 n hn
  ·exact z4Y hl (by omega) h.2 n hn
end
noncomputable def y3f:List Nat:=(u3t "lonely at ").cps.toList
noncomputable def suL:List Nat:=(u3t "sure within ").cps.toList
noncomputable def bbL:List Nat:=(u3t " by ").cps.toList
noncomputable def y5O:List Nat:=(u3t "wrong").cps.toList
noncomputable def rwL:List Nat:=(u3t "right within ").cps.toList
theorem eE2 (z:List Nat):Str.empty++tx z=tx z:=by rw[show Str.empty=tx [] from rfl,yd];rfl
noncomputable def KdP (ws:List T3):Prop:=KpP ws/\ws.length<=7/\∀u∈ws,u.1<=10^31
noncomputable def Shr (ws us:List T3) (L:Int):Prop:=KdP ws/\KdP us/\(z3u (shs ws us).length).Pairwise (fun a _=>(wAt (shs ws us) a).1∣L)/\1<=L/\L<=210
theorem KdP.big {ws:List T3} (h:KdP ws):∀u∈ws,Wk u/\u.1<=2^1000:=fun u hu=>⟨h.1.1 u hu,Int.le_trans (h.2.2 u hu) (by decide +kernel)⟩
theorem KdP.wait {ws us:List T3} (h:KdP ws) (g:KdP us) {ks:List Int} {M:Int} (m:IsMx (prd ws us) ks M):1<=M/\DgOk M:=by
 refine pA fun Gb hV=>?_;obtain⟨k,_,rfl⟩:=m.1;refine hV ?_;have b:=y5t (B:=10^31) (by decide) (fun u hu=>⟨h.1.1 u hu,h.2.2 u hu⟩) (fun u hu=>⟨g.1.1 u hu,g.2.2 u hu⟩) k;exact⟨b.1,z8y (by omega) (Int.lt_of_le_of_lt b.2 (by decide +kernel))⟩
noncomputable def y5J (ws us:List T3) (l:List Nat):Prop:=(∃i:Int,xP (shs ws us) (rnS ws us).toNat=some i/\DgOk i/\l=y3f++dg i)∨
 (xP (shs ws us) (rnS ws us).toNat=none/\∃p M,yB (shs ws us) 1 0 p=true/\IsMx (prd ws us) p.nm M/\DgOk M/\POk p/\p.kn<=419/\p.dep<=13/\l=suL++dg M++bbL++ptx p)
noncomputable def z7E (K:u3q) (C:Addr):Sp:=fun vs H Q E=>∃(a b:Addr) (xs ys:List V) (ws us:List T3) (L:Int),vs=[.ref a,.ref b]/\H a=some (.lst xs)/\Pl H xs ws/\H b=some (.lst ys)/\Pl H ys us/\Shr ws us L/\(5000<rnS ws us->∀x H',Same H H'->H' x=none->E (.ref C) (some x) H')/\(rnS ws us<=5000->∀l H',Same H H'->y5J ws us l->Q (.str (tx l)) H')
theorem z3W {u0A u0E:Addr} (T:TF K mg "sure_answer" jN) (u1j:HasX P w K mg base 18 "meeting_paper" ["one", "other"] (z0H K u0A)) (u0z:HasX P w K mg base 5 "lonely_shift" ["one", "other"] (wF K u0A)) (u0S:HasX P w K mg base 22 "paper_wait" ["one", "other", "paper"] (xi K u0E 16)) (u0L:Has P w K mg base 17 "shown_paper" ["paper"] (qP K 16)):HasX P w K mg base 23 "sure_answer" ["one", "other"] (z7E K u0A):=by
 refine T.hasX ye (fun _ _ _ _ _ _=>L2.bnd2 fun _ _=>rfl) (fun vs H Q E h=>?_) (fun f cdv A outer s H vs Q E hr h=>?_)
 ·refine pA fun Gc gB=>?_;obtain⟨a,b,xs,ys,ws,us,L,rfl,_⟩:=h;refine gB ?_;rfl
 refine pA fun Gd gC=>?_;obtain⟨a,b,xs,ys,ws,us,L,rfl,ha,hP,hb,hP2,⟨kw,ku,pw,L1,L2⟩,qx,q⟩:=h;refine gC ?_;refine⟨_,(zC (zQ (i:=2) ye.nd rfl (Or.inl rfl) (qE (u1j.mono (by first|decide|omega)) hr z1S (zB (pv 0) (zB (pv 1) zE)))) (zC (zh (zR z1z (pv 2) yI (zV _)) (zC (zQ (i:=3) ye.nd rfl (Or.inl rfl) (qE (u0z.mono (by first|decide|omega)) hr z1S (zB (pv 0) (zB (pv 1) zE)))) (zF (zL (z0f (yl zM (yl (z0g (pv 3)) z4f)))))) zP) (zC (zQ (i:=4) ye.nd rfl (Or.inl rfl) (qE (u0S.mono (by first|decide|omega)) hr z1S (zB (pv 0) (zB (pv 1) (zB (pv 2) zE))))) (zC (zQ (i:=5) ye.nd rfl (Or.inl rfl) (zS (u0L.mono (by first|decide|omega)) hr (zB (pv 2) zE))) (zF (zL (z0f (yl zM (yl (z0g (pv 4)) (yl zM (yl (z0g (pv 5)) z4f))))))))))),?_⟩;walk_at "wpd";have lw:=kw.2.1;have lu:=ku.2.1;rw[show u3t "lonely at " = tx y3f from (yn _).symm,show u3t "sure within " = tx suL from (yn _).symm,show u3t " by " = tx bbL from (yn _).symm];have n1:y3f.length=10:=by decide +kernel
 have n2:suL.length=12:=by decide +kernel
 have n3:bbL.length=4:=by decide +kernel
 have e100:(5000:Int)<10^100:=by decide +kernel
 refine⟨a,b,xs,ys,ws,us,L,rfl,SqL.of ha,hP,SqL.of hb,hP2,kw.1.1,ku.1.1,fun u hu=>(kw.big u hu).2,by omega,by omega,pw,L1,by omega,fun c x H1 g1 hx=>qx c x H1 g1 hx,fun cL hn H1 g1=>⟨fun _=>?_,fun c=>absurd rfl c⟩,fun cL hn v p H1 g1 hp hd hr2 kb=>⟨fun c=>?_,fun _=>?_⟩⟩
 ·refine⟨a,b,xs,ys,ws,us,rfl,SqL.of (g1 _ _ ha),hP.same g1,SqL.of (g1 _ _ hb),hP2.same g1,kw.1.1,ku.1.1,fun u hu=>(kw.big u hu).2,by omega,by omega,(fun c=>by omega),fun _ H2 g2=>?_⟩;cases e:xP (shs ws us) (rnS ws us).toNat with
  | none=>exact absurd e hn
  | some i=>
   have ib:0<=i/\i<5000:=by
    rcases wY (ws:=shs ws us) (n:=(rnS ws us).toNat) with⟨j,e2,h2⟩|⟨e2,_⟩
    ·rw[e] at e2;cases e2;omega
    ·rw[e] at e2;cases e2
   have dk:=z8y (n:=i) ib.1 (by omega);have l1:=dk.len;refine⟨_,rfl,by rw[eE2,zU];omega,.inl ⟨i,rfl,dk.sz,_,rfl,?_⟩⟩;rw[ym,eE2,yd,zU,u3s];exact⟨by omega,by omega,q cL _ H2 (g1.trans g2) (.inl ⟨i,e,dk,rfl⟩)⟩
 ·rcases hp with⟨a0,k,_,hv,_⟩|⟨a0,l,b0,ys0,ps,_,hv,_⟩ <;> (rw[hv] at c;cases c)
 ·have hpa:=hp.pap.any;have k4:p.kn<=419:=by omega
  have lm:=Nat.mul_le_mul lw lu;have ok:POk p:=z7T (ws:=shs ws us) (by rw[wH];omega) (by omega) hr2;refine⟨a,b,v,xs,ys,ws,us,p,rfl,SqL.of (g1 _ _ ha),hP.same g1,SqL.of (g1 _ _ hb),hP2.same g1,kw.big,ku.big,lw,lu,hpa,by omega,by omega,fun _ M H2 g2 hM=>?_,fun c=>by rw[hr2] at c;cases c⟩;refine⟨v,p,rfl,hpa.mono g2,ok,by omega,by omega,fun H3 g3=>?_⟩;have dk:=(kw.wait ku hM).2;have l1:=dk.len;have l2:=qC p ok;refine⟨_,rfl,by rw[eE2,zU];omega,.inl ⟨M,rfl,dk.sz,_,rfl,?_⟩⟩;rw[ym,eE2,yd];refine⟨by rw[zU,u3s];omega,_,rfl,by rw[yd,zU,u3s,u3s];omega,.inr ⟨_,rfl,by rw[zU];omega,_,rfl,?_⟩⟩;rw[yd,yd,zU,u3s,u3s,u3s];exact⟨by omega,by omega,q cL _ H3 ((g1.trans g2).trans g3) (.inr ⟨hn,p,M,hr2,hM,dk,ok,k4,hd,rfl⟩)⟩
noncomputable def ChkA (ws us:List T3) (p:Pap) (l:List Nat):Prop:=(yB (shs ws us) 1 0 p=true/\∃M,IsMx (prd ws us) p.nm M/\DgOk M/\l=rwL++dg M)∨(yB (shs ws us) 1 0 p=false/\l=y5O)
noncomputable def z4K (K:u3q):Sp:=fun vs H Q _=>∃(a b:Addr) (v:V) (xs ys:List V) (ws us:List T3) (p:Pap),vs=[.ref a,.ref b,v]/\H a=some (.lst xs)/\Pl H xs ws/\H b=some (.lst ys)/\Pl H ys us/\KdP ws/\KdP us/\PapIn K z3w H v p/\p.dep<=15/\p.kn<=600/\∀l H',Same H H'->ChkA ws us p l->Q (.str (tx l)) H'
theorem z1X {u0E u0B:Addr} (T:TF K mg "check_answer" xr) (u0N:OX K mg "NoPaper" u0E (.ref u0B::VE)) (u0S:HasX P w K mg base 22 "paper_wait" ["one", "other", "paper"] (xi K u0E 16)):Has P w K mg base 23 "check_answer" ["one", "other", "paper"] (z4K K):=by
 refine T.has jf (fun _ _ _ _ _ _=>L2.bnd3 fun _ _ _=>rfl) (fun vs H Q E h=>?_) (fun f cdv A outer s H vs Q E hr h=>?_)
 ·refine pA fun Ge gE=>?_;obtain⟨a,b,v,xs,ys,ws,us,p,rfl,_⟩:=h;refine gE ?_;rfl
 refine pA fun Gf gG=>?_;obtain⟨a,b,v,xs,ys,ws,us,p,rfl,ha,hP,hb,hP2,kw,ku,hv,hd,hk,q⟩:=h;refine gG ?_;refine⟨_,(zC (z7X rfl rfl rfl (z2w (i:=3) jf.nd rfl (Or.inl rfl) (z2x rfl (u0S.mono (by first|decide|omega)) hr (zB (pv 0) (zB (pv 1) (zB (pv 2) zE))))) (y4R rfl (fun _=>z7Y u0N u0N) (fun _=>(zF (zL zM))) z7Z)) (zF (zL (z0f (yl zM (yl (z0g (pv 3)) z4f)))))),?_⟩;walk_at "wpd";unfold y5U;walk_at "wpd";have n1:rwL.length=13:=by decide +kernel
 rw[show u3t "right within " = tx rwL from (yn _).symm];refine⟨a,b,v,xs,ys,ws,us,p,rfl,SqL.of ha,hP,SqL.of hb,hP2,kw.big,ku.big,kw.2.1,ku.2.1,hv,by omega,by omega,fun c M H1 g1 hM=>?_,fun c x H1 g1 hx=>⟨x,rfl,rfl,?_⟩⟩
 ·have dk:=(kw.wait ku hM).2;have l1:=dk.len;refine⟨_,rfl,by rw[eE2,zU];omega,.inl ⟨M,rfl,dk.sz,_,rfl,?_⟩⟩;rw[ym,eE2,yd,zU,u3s];exact⟨by omega,by omega,q _ H1 g1 (.inl ⟨c,M,hM,dk,rfl⟩)⟩
 ·have hc:(u4J u0E::u4J u0B::VE).contains (u4J u0E)=true:=by simp
  unfold y1m;rw[hc];unfold y3S;walk_at "wpd";rw[show u3t "wrong" = tx y5O from (yn _).symm];exact q _ _ (g1.trans (zJ hx _)) (.inr ⟨c,rfl⟩)
theorem y5z (v:V):List.lookup (u3t "plan_by") [((u3t "plans"),v)]=none:=by
 rw[u5O,show ((u3t "plan_by") == (u3t "plans"))=false by decide +kernel];rfl
noncomputable def PPG:List Str:=[u3t "plan",u3t "pair",u3t "grid"]
noncomputable def z2f:List Nat:=[115,117,114,101]
noncomputable def qm:List Nat:=[99,104,101,99,107]
noncomputable def z3E:List Nat:=[112,97,105,114]
noncomputable def z5N:List Nat:=[103,114,105,100]
theorem y1o:u3t "sure" = tx z2f:=by decide +kernel
theorem y1P:u3t "check" = tx qm:=by decide +kernel
theorem y2V:u3t "pair" = tx z3E:=by decide +kernel
inductive PRow:List Nat->List (List Nat)->List T3->Prop
 | plan {ws:List T3} {s:Bool}:ws.length<=12->(∀u∈ws,WOk u)->(∀u∈ws,isW u=true)->PRow z6F [j7 ws s] ws
 | pair {a b:Int}:IsPart a a->IsPart b b->a≠b->SgOk a->SgOk b->a<2^60->b<2^60->PRow z3E [dg a,dg b] [(a,0,1),(b,0,1)]
 | grid {n:Int}:1<=n->n<2^400->SgOk n->PRow z5N [dg n] [(n,0,1),(n*n,0,n)]
noncomputable def ja (K:u3q):Sp:=fun vs H Q _=>∃(W:Addr) (h nm:List Nat) (rs:List (List Nat)) (ws:List T3),vs=[.ref W]/\H W=some (.lst (((h::nm::rs).map tx).map V.str))/\PRow h rs ws/\∀(D:Addr) (xs:List V) (H':Hp),Same H H'->H' D=some (.lst xs)->Pl H' xs ws->Q (.ref D) H'
theorem z6P (T:TF K mg "told_plan" qp) (u0j:mg "int" = none) (u2j:Has P w K mg base 4 "read_plan" ["text"] wm) (u2k:Has P w K mg base 3 "pair_plan" ["one", "other"] wn) (u2l:Has P w K mg base 1 "grid_plan" ["number"] wt):Has P w K mg base 5 "told_plan" ["words"] (ja K):=by
 refine T.has z4R (fun _ _ _ _ _ _=>L2.bnd1 fun _=>rfl) (fun vs H Q E h=>?_) (fun f cdv A outer s H vs Q E hr h=>?_)
 ·refine pA fun Gg gH=>?_;obtain⟨W,h,nm,rs,ws,rfl,_⟩:=h;refine gH ?_;rfl
 refine pA fun Gh gI=>?_;obtain⟨W,h,nm,rs,ws,rfl,hW,pr,q⟩:=h;refine gI ?_;refine⟨_,(zC (zh (zR yX (zY za (pv 0) zG (fun _ _=>rfl)) zM (zV _)) (zF (zL (zS (u2j.mono (by first|decide|omega)) hr (zB (zY za (pv 0) zG (fun _ _=>rfl)) zE)))) zP) (zC (zh (zR yX (zY za (pv 0) zG (fun _ _=>rfl)) zM (zV _)) (zF (zL (zS (u2k.mono (by first|decide|omega)) hr (zB (zZ y6 rfl u0j (by decide +kernel) (zB (zY za (pv 0) zG (fun _ _=>rfl)) zE)) (zB (zZ y6 rfl u0j (by decide +kernel) (zB (zY za (pv 0) zG (fun _ _=>rfl)) zE)) zE))))) zP) (zF (zL (zS (u2l.mono (by first|decide|omega)) hr (zB (zZ y6 rfl u0j (by decide +kernel) (zB (zY za (pv 0) zG (fun _ _=>rfl)) zE)) zE)))))),?_⟩;walk_at "wpd";rw[y2M,y2V];cases pr with
 | @plan _ s h1 h2 h3=>
  refine zc (SqL.of hW) (ze (j:=0) rfl) (eqT ⟨_,rfl,fun _=>?_,fun c=>absurd (decide_eq_true rfl) c⟩);exact zc (SqL.of hW) (ze (j:=2) rfl) ⟨ws,s,rfl,h1,h2,h3,fun D xs H' g _ hD hP=>q D xs H' g hD hP⟩
 | @pair a b h1 h2 h3 s1 s2 h4 h5=>
  refine zc (SqL.of hW) (ze (j:=0) rfl) (eqT ⟨_,rfl,(fun c=>absurd c (by decide)),fun _=>?_⟩);refine zc (SqL.of hW) (ze (j:=0) rfl) (eqT ⟨_,rfl,fun _=>?_,fun c=>absurd (decide_eq_true rfl) c⟩);have l1:=s1.len;have l2:=s2.len;exact zc (SqL.of hW) (ze (j:=2) rfl) ⟨_,_,rfl,s1.rd,by rw[zU];omega,zc (SqL.of hW) (ze (j:=3) rfl) ⟨_,_,rfl,s2.rd,by rw[zU];omega,_,_,rfl,h1,h2,h3,h4,h5,fun D xs H' g _ hD hP=>q D xs H' g hD hP⟩⟩
 | @grid n h1 h2 s1=>
  refine zc (SqL.of hW) (ze (j:=0) rfl) (eqT ⟨_,rfl,(fun c=>absurd c (by decide)),fun _=>?_⟩);refine zc (SqL.of hW) (ze (j:=0) rfl) (eqT ⟨_,rfl,(fun c=>absurd c (by decide)),fun _=>?_⟩);have l1:=s1.len;exact zc (SqL.of hW) (ze (j:=2) rfl) ⟨_,_,rfl,s1.rd,by rw[zU];omega,_,rfl,h1,h2,fun D xs H' g _ hD hP=>q D xs H' g hD hP⟩
noncomputable def y7D (t:List Nat) (n:Int):Prop:=intText? (tx t)=some n/\t.length<=640/\n.natAbs<2^400
theorem PRow.ppg {h:List Nat} {rs:List (List Nat)} {ws:List T3} (p:PRow h rs ws):PPG.contains (tx h)=true:=by
 cases p <;> decide +kernel
theorem y6D {n:Int} (h:n.natAbs<2^1920):n.natAbs.log2<1920:=by
 by_cases z:n.natAbs=0
 ·rw[z];decide
 ·exact (Nat.log2_lt z).mpr h
theorem z6n {ws us:List T3} {d k x:Int} (h1:KpP ws) (h2:KpP us) (hk:k.natAbs<2^400) (h:NextOf (z5o ws us d) k (some x)):x.natAbs.log2<1920:=by
 refine pA fun Gi gJ=>?_;obtain⟨⟨u,mu,a1⟩,v,mv,a2⟩:=h.2.1;refine gJ ?_;have w1:=h1.1 u mu;have w2:=h2.1 v mv;have s1:=h1.2.1 u mu;have s2:=h2.2.1 v mv;have p1:=w1.1;have p2:=w2.1;refine pA fun Gj gK=>?_;obtain⟨y,ey,y1,y2,_⟩:=y4d mu mv a1 a2 (L:=u.1*v.1) (Int.mul_pos (by omega) (by omega)) (Int.dvd_mul_right _ _) (Int.dvd_mul_left _ _) h;refine gK ?_;cases ey;have m:u.1*v.1<=2^900*2^900:=Int.mul_le_mul (by omega) (by omega) (by omega) (by decide +kernel);refine y6D (Nat.lt_trans (m:=2^1801) ?_ (by decide +kernel));have e:(2:Nat)^1801=2^1800+2^1800:=by decide +kernel
 have e4:(2:Nat)^400<2^1800:=by decide +kernel
 have ei:(2:Int)^900*2^900=((2^1800:Nat):Int):=by decide +kernel
 rw[ei] at m;generalize (2:Nat)^1800=B at *
 generalize (2:Nat)^400=B4 at *
 omega
noncomputable def Ask (N:Addr) (hd:List Nat) (rs:List (List Nat)) (ws us:List T3) (H:Hp) (Q:VK) (E:XK):Prop:=
 (hd=z2f/\rs=[]/\∃B,Shr ws us B/\(5000<rnS ws us->∀x H',Same H H'->H' x=none->E (.ref N) (some x) H')/\(rnS ws us<=5000->∀z H',Same H H'->y5J ws us z->Q (.str (tx z)) H'))∨
 (hd=qm/\∃p,rs=[ptx p]/\POk p/\p.dep<=15/\p.kn<=600/\KdP ws/\KdP us/\∀z H',Same H H'->ChkA ws us p z->Q (.str (tx z)) H')∨
 (hd=z3J/\∃t1 t2 k1 k2,rs=[t1,t2]/\y7D t1 k1/\y7D t2 k2/\∀r H',Same H H'->NextOf (z5o ws us k1) k2 r->Q (.str (y6a r)) H')
theorem Ask.hd {N:Addr} {hd:List Nat} {rs:List (List Nat)} {ws us:List T3} {H:Hp} {Q:VK} {E:XK} (h:Ask N hd rs ws us H Q E):hd=z2f∨hd=qm∨hd=z3J:=h.imp (·.1) (·.imp (·.1) (·.1))
noncomputable def jb (K:u3q) (C N:Addr):Sp:=fun vs H Q E=>∃(d pd:Addr) (l:List Nat) (n:Nat) (L:ky),vs=[.ref d,.str (tx l)]/\Dsk C H d pd n L/\n<=1000/\TxOk l/\
  ((∃h nm rs ws,qd l=some (h::nm::rs)/\PRow h rs ws/\KpP ws/\∀H',y8C pd H H'->Dsk C H' d pd (n+1) (z5l L (tx nm) ws)->Q (.str "kept") H')∨
   ∃n1 n2 ws us hd rs,L (tx n1)=some ws/\L (tx n2)=some us/\qd l=some (hd::n1::n2::rs)/\Ask N hd rs ws us H Q E)
theorem y2v {C u0W u0R u0A:Addr} (X:DkTx K C) (u0b:Cls K C) (T:TM K C "told" "Desk.told" kD) (u0j:mg "int" = none) (u3I:HasX P w K mg base 4 "words_of" ["row"] (z0D u0W)) (u2m:Has P w K mg base 5 "told_plan" ["words"] (ja K)) (u1T:HasMX P w K mg base 1 C "plan_by" ["self", "name"] (z1f K C u0R)) (u1L:Has P w K mg base 87 "read_paper" ["text"] (z0F K)) (u2G:HasX P w K mg base 23 "sure_answer" ["one", "other"] (z7E K u0A)) (u1v:Has P w K mg base 23 "check_answer" ["one", "other", "paper"] (z4K K)) (u2H:Has P w K mg base 1 "turn_answer" ["turn"] qi) (u0o:Has P w K mg base 5 "next_together" ["one", "other", "shift", "turn"] (jG K)):HasMX P w K mg base 88 C "told" ["self", "row"] (jb K C u0A):=by
 refine T.hasX xH (fun _ _ _ _ _ _=>L2.bnd2 fun _ _=>rfl) (fun vs H Q E h=>?_) (fun f cdv A outer s H vs Q E hr h=>?_)
 ·refine pA fun Gk gL=>?_;obtain⟨d,pd,l,n,L,rfl,_⟩:=h;refine gL ?_;rfl
 refine pA fun Gm gM=>?_;obtain⟨d,pd,l,n,L,rfl,hk,hn,hl,h⟩:=h;refine gM ?_;refine⟨_,(zC (zQ (i:=2) xH.nd rfl (Or.inl rfl) (qE (u3I.mono (by first|decide|omega)) hr z1S (zB (pv 1) zE))) (zC (zh (zR y6A (zY za (pv 2) zG (fun _ _=>rfl)) (yF (zB zM (zB zM (zB zM zE)))) rfl) (zC (z3A (qH hr) (jC (pv 0) rfl) (zY za (pv 2) zG (fun _ _=>rfl)) (zS (u2m.mono (by first|decide|omega)) hr (zB (pv 2) zE)) rfl) (zF (zL zM))) zP) (zC (zh (zR yX (zY za (pv 2) zG (fun _ _=>rfl)) zM (zV _)) (zF yr) zP) (zC (yP (zQ (i:=3) xH.nd rfl (Or.inl rfl) (z3B (zR yX (zY za (pv 2) zG (fun _ _=>rfl)) zM (zV _)) (zS (u1L.mono (by first|decide|omega)) hr (zB (zY za (pv 2) zG (fun _ _=>rfl)) zE)) yI))) (zC (zQ (i:=4) xH.nd rfl (Or.inl rfl) (z9w (pv 0) u0b (u1T.mono (by first|decide|omega)) hr z1S (zB (zY za (pv 2) zG (fun _ _=>rfl)) zE))) (zC (zQ (i:=5) xH.nd rfl (Or.inl rfl) (z9w (pv 0) u0b (u1T.mono (by first|decide|omega)) hr z1S (zB (zY za (pv 2) zG (fun _ _=>rfl)) zE))) (zC (zh (zR yX (zY za (pv 2) zG (fun _ _=>rfl)) zM (zV _)) (zF (zL (zS (u2H.mono (by first|decide|omega)) hr (zB (zS (u0o.mono (by first|decide|omega)) hr (zB (pv 4) (zB (pv 5) (zB (zZ y6 rfl u0j (by decide +kernel) (zB (zY za (pv 2) zG (fun _ _=>rfl)) zE)) (zB (zZ y6 rfl u0j (by decide +kernel) (zB (zY za (pv 2) zG (fun _ _=>rfl)) zE)) zE))))) zE)))) zP) (zC (zh (zR yX (zY za (pv 2) zG (fun _ _=>rfl)) zM (zV _)) (zF (zL (qE (u2G.mono (by first|decide|omega)) hr z1S (zB (pv 4) (zB (pv 5) zE))))) zP) (zC (zh (zR yX (zY za (pv 2) zG (fun _ _=>rfl)) zM (zV _)) (zF yr) zP) (zF (zL (zS (u1v.mono (by first|decide|omega)) hr (zB (pv 4) (zB (pv 5) (zB (pv 3) zE))))))))))))))),?_⟩;walk_at "wpd";have wor:u3t "worst" = tx [119,111,114,115,116]:=by decide +kernel
 rw[y1X];rcases h with⟨h,nm,rs,vs,er,pr,kp,q⟩|⟨n1,n2,vs,us,hd,rs,e1,e2,er,h⟩
 ·refine⟨l,rfl,hl,(fun e=>by rw[er] at e;cases e),fun ws D H1 e g1 nD hD=>?_⟩;rw[er] at e;cases e;refine zc (SqL.of hD) (ze (j:=0) rfl) fun p np=>?_;have gp:=zJ np (.tup (PPG.map V.str));refine⟨tx h,p,PPG,rfl,rfl,SqT.of zH,fun _=>?_,fun c=>absurd pr.ppg c⟩;have hD2:=gp _ _ hD;have G2:=g1.trans gp;change ja K [V.ref D] (upd H1 p (.tup (PPG.map V.str))) _ _;generalize upd H1 p (.tup (PPG.map V.str))=H2 at gp hD2 G2 ⊢;refine⟨D,h,nm,rs,vs,rfl,hD2,pr,fun F xs H3 g3 hF hP=>?_⟩;have G3:=G2.trans g3;refine pA fun Gn gN=>?_;obtain⟨⟨dx,hd⟩,kvs,hp,hlk,hb⟩:=hk.same G3;refine gN ?_;refine⟨d,C,dx,_,.ref pd,rfl,hd,X.cl,X.nP,rfl,zc (SqL.of (g3 _ _ hD2)) (ze (j:=1) rfl) ⟨pd,_,rfl,DPut.k (k:=.inr (tx nm)) hp (by rw[u4Q];omega),q _ (fun b o hb e=>by rw[zb hb];exact G3 b o e) ⟨⟨dx,by rw[zb (xV hd hp (by intro z;cases z))];exact hd⟩,_,zH,?_,?_⟩⟩⟩
  ·have:=jY kvs (Sum.inr (tx nm)) (.ref F);omega
  ·exact (hb.put kp hF hP).by (fun b ys e=>by rw[zb (xV e hp (by intro z;cases z))];exact e) fun b ys e=>by rw[zb (xV e hp (by intro z;cases z))];exact e
 refine⟨l,rfl,hl,(fun e=>by rw[er] at e;cases e),fun ws' D H1 e g1 nD hD=>?_⟩;rw[er] at e;cases e;have np:PPG.contains (tx hd)=false:=by rcases h.hd with rfl|rfl|rfl <;> decide +kernel
 have na:¬hd=y3s:=by rcases h.hd with rfl|rfl|rfl <;> decide
 refine zc (SqL.of hD) (ze (j:=0) rfl) fun p np1=>?_;have gp:=zJ np1 (.tup (PPG.map V.str));refine⟨tx hd,p,PPG,rfl,rfl,SqT.of zH,(fun c=>by rw[np] at c;cases c),fun _=>?_⟩;have hD2:=gp _ _ hD;have G2:=g1.trans gp;change y3Y K (V.ref D) (V.int 0) (upd H1 p (.tup (PPG.map V.str))) _;generalize upd H1 p (.tup (PPG.map V.str))=H2 at gp hD2 G2 ⊢;refine zc (SqL.of hD2) (ze (j:=0) rfl) (eqT ⟨_,rfl,(fun c=>absurd (of_decide_eq_true c) na),fun _=>?_⟩);refine⟨fun σ H'=>∃pv pp,σ=[some (.ref d),some (.str (tx l)),some (.ref D),some pv,none,none]/\Same H2 H'/\(hd=qm->PapIn K z3w H' pv pp/\pp.dep<=15/\pp.kn<=600/\KdP vs/\KdP us/\∀z H',Same H H'->ChkA vs us pp z->Q (.str (tx z)) H'),?_,?_⟩
 ·walk_at "wpd";rw[y1P];refine zc (SqL.of hD2) (ze (j:=0) rfl) (eqT ⟨_,rfl,fun c=>?_,fun c=>⟨_,.inn 0,rfl,Same.refl _,fun e=>absurd (decide_eq_true e) c⟩⟩);rcases h with⟨rfl,_⟩|⟨_,pp,rfl,ok,dp,kp,kd1,kd2,q⟩|⟨rfl,_⟩
  ·exact absurd c (by decide)
  ·exact zc (SqL.of hD2) (ze (j:=3) rfl) ⟨pp,rfl,ok,by omega,by omega,fun v H3 g3 hv=>⟨v,pp,rfl,g3,fun _=>⟨hv.any,dp,kp,kd1,kd2,q⟩⟩⟩
  ·exact absurd c (by decide)
 rintro σ H3 ⟨pv,pp,rfl,g3,hpv⟩;have G3:=G2.trans g3;have hD3:=g3 _ _ hD2;have hk3:=hk.same G3;refine pA fun Go gO=>?_;obtain⟨⟨dx,hd3⟩,_⟩:=id hk3;refine gO ?_;walk_at "wpd";rw[y2f,y1o,wor];refine⟨d,dx,_,rfl,hd3,y5z _,zc (SqL.of hD3) (ze (j:=1) rfl) ⟨d,pd,tx n1,n,L,rfl,hk3,(fun e=>by rw[e1] at e;cases e),fun ws' F xs e kp hF hP=>?_⟩⟩;rw[e1] at e;cases e;refine⟨d,dx,_,rfl,hd3,y5z _,zc (SqL.of hD3) (ze (j:=2) rfl) ⟨d,pd,tx n2,n,L,rfl,hk3,(fun e=>by rw[e2] at e;cases e),fun us' F2 ys e kp2 hF2 hP2=>?_⟩⟩;rw[e2] at e;cases e;refine zc (SqL.of hD3) (ze (j:=0) rfl) (eqT ⟨_,rfl,fun c=>?_,fun c1=>zc (SqL.of hD3) (ze (j:=0) rfl) (eqT ⟨_,rfl,fun c=>?_,fun c2=>zc (SqL.of hD3) (ze (j:=0) rfl) (eqT ⟨_,rfl,fun c=>?_,fun _=>?_⟩)⟩)⟩)
 ·rcases h with⟨rfl,_⟩|⟨rfl,_⟩|⟨_,t1,t2,k1,k2,rfl,hk1,hk2,q⟩
  ·exact absurd c (by decide)
  ·exact absurd c (by decide)
  refine zc (SqL.of hD3) (ze (j:=3) rfl) ⟨_,k1,rfl,hk1.1,by rw[zU];exact hk1.2.1,zc (SqL.of hD3) (ze (j:=4) rfl) ⟨_,k2,rfl,hk2.1,by rw[zU];exact hk2.2.1,F,F2,xs,ys,vs,us,k1,k2,rfl,SqL.of hF,hP,SqL.of hF2,hP2,kp.1,kp2.1,kp.2.1,kp2.2.1,by have:=kp.2.2;omega,by have:=kp2.2.2;omega,fun r H3 g3 hr=>⟨r,rfl,fun m z=>?_,q r H3 (G3.trans g3) hr⟩⟩⟩;subst z;exact z6n kp kp2 hk2.2.2 hr
 ·rcases h with⟨_,_,B,sm,qx,q⟩|⟨rfl,_⟩|⟨rfl,_⟩
  ·exact⟨F,F2,xs,ys,vs,us,B,rfl,hF,hP,hF2,hP2,sm,fun c x H4 g4 hx=>qx c x H4 (G3.trans g4) hx,fun c z H4 g4 hz=>q c z H4 (G3.trans g4) hz⟩
  ·exact absurd c (by decide)
  ·exact absurd c (by decide)
 ·rcases h.hd with rfl|rfl|rfl <;> exact absurd c (by decide)
 ·rcases h.hd with rfl|e|rfl
  ·exact absurd (decide_eq_true rfl) c2
  ·refine pA fun Gp gP=>?_;obtain⟨hv,dp,kp',kd1,kd2,q⟩:=hpv e;refine gP ?_;exact⟨F,F2,pv,xs,ys,vs,us,pp,rfl,hF,hP,hF2,hP2,kd1,kd2,hv,dp,kp',fun z H4 g4 hz=>q z H4 (G3.trans g4) hz⟩
  ·exact absurd (decide_eq_true rfl) c1
end
section
variable {P:Program} {w:World} {K:u3q} {mg:Str->Option Value} {base:Heap}
local macro_rules | `(tactic| walk_at "wpd")=>`(tactic| try simp only [z2N,z2a,z3Q,z2Z,z5s,wC,z2t,z0A,z9T,z2V,z2d,vn,z2P,vP,vS,kM,vZ,vY,y1l,z6q,z6p,z6v,z6s,z7V,y2I,y2H,z2v,z2u,vO,y1n,y3G,z7v,z7w,z2e,z6u,z2S,v7,z2R,vR,z6w,z2T,v3,z2L,z2U,v6,z6x,kL,z2Q,z7u,z2c,z7p,z6t,qN,vQ,z6y,z2b,vN,z3j,vo,z3k,z2W,vi,vh,vf,vg,ve,vj,z2O,vk,z3R,z3T,z3P,vd,vm,ko,z3S,z2X,z3M,vc,vX,z2Y,z2s,qU,vU,vW,jF,vT,vV,v4,z3N,L2.j8,z8A,vq,kx,u4j,List.map_nil,u3x,u4G,List.replicate,u5G,u5a,u5l,List.set_cons_zero,List.set_cons_succ,decide_eq_true_eq,u6B,decide_eq_false_iff_not,Bool.not_eq_eq_eq_not,Bool.not_true,Bool.not_false,u4Q,oV,reduceCtorEq,z7m,z7n,z7l,z7o,Nat.reduceAdd,Nat.reduceSub,Nat.reduceLeDiff,Nat.zero_add,true_and,and_true,forall_const,u5h,if_true,if_false,false_implies,true_implies,not_false_eq_true,not_true_eq_false,implies_true])
noncomputable def Knd (ws:List T3):Prop:=KdP ws/\((∃D:Int,1<=D/\D<=210/\∀u∈ws,u.1∣D)∨∃vs x,ws=vs++[x]/\∀u∈vs,u.1∣60)
theorem z9r {S A:List T3} {z:T3} {L:Int} (e:S=A++[z]) (h:∀u∈A,u.1∣L):(z3u S.length).Pairwise (fun a _=>(wAt S a).1∣L):=by
 unfold z3u;rw[List.pairwise_map];refine List.pairwise_lt_range.imp_of_mem fun {i j} hi hj hlt=>?_;have hj:=u5j.mp hj;rw[e,u3s,u6G] at hj;have hi:i<A.length:=by omega
 show (S.getD ((i:Int)).toNat (1,0,1)).1∣L;rw[u6Z,e,u4M,u4k hi,u4A hi];exact h _ (u5T hi)
theorem y3Z {S:List T3} {L:Int} (h:∀u∈S,u.1∣L):(z3u S.length).Pairwise (fun a _=>(wAt S a).1∣L):=by
 rcases List.eq_nil_or_concat S with rfl|⟨A,z,rfl⟩
 ·exact .nil
 ·exact z9r (A:=A) (z:=z) (by simp) fun u hu=>h u (by simp [hu])
theorem Knd.shr {ws us:List T3} (h:Knd ws) (g:Knd us):∃L,Shr ws us L:=by
 obtain⟨kw,hw⟩:=h;obtain⟨ku,hu⟩:=g;rcases hw with⟨D,d1,d2,dv⟩|⟨vs,x,rfl,dv⟩
 ·refine⟨D,kw,ku,y3Z fun y hy=>?_,d1,d2⟩;refine pA fun Gq gQ=>?_;obtain⟨u,mu,v,mv,rfl⟩:=z0n.mp hy;refine gQ ?_;exact u5K (y4 _ _) (dv u mu)
 rcases hu with⟨D,d1,d2,dv2⟩|⟨vs2,y,rfl,dv2⟩
 ·refine⟨D,kw,ku,y3Z fun y hy=>?_,d1,d2⟩;refine pA fun Gr gR=>?_;obtain⟨u,mu,v,mv,rfl⟩:=z0n.mp hy;refine gR ?_;exact u5K (yN _ _) (dv2 v mv)
 refine⟨60,kw,ku,z9r (A:=shs vs (vs2++[y])++vs2.map (sh2 x)) (z:=sh2 x y) (by simp [shs]) fun z hz=>?_,by decide,by decide⟩;rcases u4H.mp hz with hz|hz
 ·refine pA fun Gs gU=>?_;obtain⟨u,mu,v,mv,rfl⟩:=z0n.mp hz;refine gU ?_;exact u5K (y4 _ _) (dv u mu)
 ·refine pA fun Gu gW=>?_;obtain⟨v,mv,rfl⟩:=u4l.mp hz;refine gW ?_;exact u5K (yN _ _) (dv2 v mv)
noncomputable def z7K:Sp:=fun vs H Q _=>∃c:Int,vs=[.int c]/\u4d c<=2^20/\∀(D:Addr) (xs:List V) (ws:List T3) (H':Hp),Same H H'->H D=none->H' D=some (.lst xs)->Pl H' xs ws->Knd ws->Q (.ref D) H'
theorem y8A {n:Int} (h1:1<=n) (h2:n<=6):n∣60:=by
 have:n=1∨n=2∨n=3∨n=4∨n=5∨n=6:=by omega
 rcases this with rfl|rfl|rfl|rfl|rfl|rfl <;> decide
theorem z8r (T:TF K mg "_law_plan" wN) (u0O:mg "range" = none) (u1B:Has P w K mg base 1 "_law_big" ["cell"] z7Q):Has P w K mg base 2 "_law_plan" ["cell"] z7K:=by
 refine T.has yi (fun _ _ _ _ _ _=>L2.bnd1 fun _=>rfl) (fun vs H Q E h=>?_) (fun f cdv A outer s H vs Q E hr h=>?_)
 ·refine pA fun Gv gX=>?_;obtain⟨c,rfl,_⟩:=h;refine gX ?_;rfl
 refine pA fun Gw gZ=>?_;obtain⟨c,rfl,hc,q⟩:=h;refine gZ ?_;refine⟨_,(zC (zQ (i:=1) yi.nd rfl (Or.inl rfl) (zS (u1B.mono (by first|decide|omega)) hr (zB (pv 0) zE))) (zC (zQ (i:=2) yi.nd rfl (Or.inl rfl) (yV zE)) (zC (yP (xR u4p rfl (kZ rfl u0O (zB (zN zi (pv 1) zG) zE)) (zd (i:=3) yi.nd rfl (Or.inl rfl)) (zC (zQ (i:=1) yi.nd rfl (Or.inl rfl) (zN zk (pv 1) zG)) (zC (zQ (i:=4) yi.nd rfl (Or.inl rfl) (zN xI zG (zN zi (pv 1) zG))) (zF (yy (xx u4v u5P u5Q yu (pv 2) (zB (yF (zB (pv 4) (zB (zN zi (zN zk (pv 1) zG) (pv 4)) (zB (zN xI zG (zN zi (zN zk (pv 1) zG) (pv 4))) zE)))) zE)))))))) (zC (yP (zh (zR yX (zN zi (zN zk (pv 1) zG) zG) zG (zV _)) (zF (yy (xx u4v u5P u5Q yu (pv 2) (zB (yF (zB zG (zB (zN zi (zN zk (pv 1) zG) zG) (zB zG zE)))) zE)))) zP)) (zC (zh (zR yX (zN zi (zN zk (pv 1) zG) zG) zG (zV _)) (zC (zQ (i:=4) yi.nd rfl (Or.inl rfl) (zN xI zG (zN zi (zN zk (pv 1) zG) (zN y0C zG zG)))) (zF (yy (xx u4v u5P u5Q yu (pv 2) (zB (yF (zB (pv 4) (zB (zN zi (zN zk (pv 1) zG) (pv 4)) (zB zG zE)))) zE))))) zP) (zF (zL (pv 2)))))))),?_⟩;walk_at "wpd";refine⟨c,rfl,u5I hc (by decide),fun num n0 n1 D nD=>?_⟩;have gD:=zJ nD (.lst []);have hD:=zH (H:=H) (a:=D) (o:=.lst []);generalize upd H D (.lst [])=H1 at gD hD ⊢;have dv:∀x y:Int,2<=y->y<=1000->z9I x y:=fun x y h1 h2=>z7x 10 (by omega) (by omega) (by decide);obtain⟨J,hJ⟩:∃J:Nat->St->Hp->Prop,J=fun m σ H'=>∃(num:Int) (o3 o4:Option V) (xs:List V) (ws:List T3),σ=[some (.int c),some (.int num),some (.ref D),o3,o4]/\0<=num/\num<10^60/\Same H H'/\H' D=some (.lst xs)/\Pl H' xs ws/\ws.length<=m/\∀u∈ws,Wk u/\u.1<=6:=⟨_,rfl⟩
 have snoc:∀ {H':Hp} {xs:List V} {ws:List T3} {p:Addr} (u:T3),Same H H'->H' D=some (.lst xs)->Pl H' xs ws->H' p=none->Same H (upd (upd H' p (wA u)) D (.lst (xs++[.ref p])))/\(upd (upd H' p (wA u)) D (.lst (xs++[.ref p]))) D=some (.lst (xs++[.ref p]))/\Pl (upd (upd H' p (wA u)) D (.lst (xs++[.ref p]))) (xs++[.ref p]) (ws++[u]):=fun {H' xs ws p} u g hd hP np=>by
  have gp:=zJ np (wA u);exact⟨(g.trans gp).write nD _,zH,((hP.same gp).snoc zH).upd (gp _ _ hd)⟩
 have mem:∀ {ws:List T3} {u:T3},(∀v∈ws,Wk v/\v.1<=6)->Wk u/\u.1<=6->∀v∈ws++[u],Wk v/\v.1<=6:=fun {ws u} h hu v hv=>by
  rcases u4H.mp hv with hv|hv
  ·exact h v hv
  ·rw[u4O.mp hv];exact hu
 have b4:=z4p num (show (0:Int)<4 by decide);refine⟨J 3,?_,fun σ H2 h=>?_⟩
 ·walk_at "wpd";refine⟨by decide,_,rfl,by omega,by omega,?_⟩;refine wa J (by rw[hJ];exact⟨num,none,none,[],[],rfl,n0,n1,gD,hD,.nil,u3y _,fun u h=>nomatch h⟩) (fun i σ H' hi z=>?_) (fun σ H' z=>?_)
  ·rw[hJ] at z;refine pA fun Gx fA=>?_;obtain⟨m,o3,o4,xs,ws,rfl,m0,m1,g,hd,hP,hl,hw⟩:=z;refine fA ?_;walk_at "wpd";have b6:=z4p (m/100) (show (0:Int)<6 by decide);generalize hper:1+m/100%6=per;have c1:=z4p (m/100/6) (show (0:Int)<per by omega);have c2:=z4p (m/100/36) (show (0:Int)<per by omega);have lx:=hP.1;refine⟨dv _ _ (by decide) (by decide),by decide,.inl ⟨rfl,_,SqL.of hd⟩,dv _ _ (by decide) (by decide),by omega,dv _ _ (by decide) (by decide),by omega,fun p np=>⟨D,xs,_,rfl,rfl,zJ np _ _ _ hd,by rw[u4Q];omega,?_⟩⟩;refine pA fun Gy fB=>?_;obtain⟨s1,s2,s3⟩:=snoc (per,m/100/6%per,1+m/100/36%per) g hd hP np;refine fB ?_;rw[hJ];exact⟨_,_,_,_,_,rfl,by omega,by omega,s1,s2,s3,by simp;omega,mem hw ⟨⟨by show 1<=per;omega,c1.1,c1.2,by show 1<=1+m/100/36%per;omega,by show 1+m/100/36%per<=per;omega⟩,by show per<=6;omega⟩⟩
  ·rw[hJ] at z ⊢;refine pA fun Gz fE=>?_;obtain⟨m,o3,o4,xs,ws,e,m0,m1,g,hd,hP,hl,hw⟩:=z;refine fE ?_;exact⟨m,o3,o4,xs,ws,e,m0,m1,g,hd,hP,by omega,hw⟩
 walk_at "wpd";refine⟨J 4,?_,fun σ H3 h=>?_⟩
 ·rw[hJ] at h ⊢;refine pA fun Ga hU=>?_;obtain⟨m,o3,o4,xs,ws,rfl,m0,m1,g,hd,hP,hl,hw⟩:=h;refine hU ?_;have lx:=hP.1;have b3:=z4p (m/16) (show (0:Int)<3 by decide);walk_at "wpd";refine⟨dv _ _ (by decide) (by decide),by decide,fun _=>⟨.inl ⟨rfl,_,SqL.of hd⟩,dv _ _ (by decide) (by decide),by decide,fun p np=>⟨D,xs,_,rfl,rfl,zJ np _ _ _ hd,by rw[u4Q];omega,?_⟩⟩,fun _=>⟨m,o3,o4,xs,ws,rfl,m0,m1,g,hd,hP,by omega,hw⟩⟩;refine pA fun Gb hV=>?_;obtain⟨s1,s2,s3⟩:=snoc (3,m/16%3,3) g hd hP np;refine hV ?_;exact⟨_,_,_,_,_,rfl,m0,m1,s1,s2,s3,by simp;omega,mem hw ⟨⟨show (1:Int)<=3 by decide,b3.1,b3.2,show (1:Int)<=3 by decide,show (3:Int)<=3 by decide⟩,show (3:Int)<=6 by decide⟩⟩
 rw[hJ] at h;refine pA fun Gc gB=>?_;obtain⟨m,o3,o4,xs,ws,rfl,m0,m1,g,hd,hP,hl,hw⟩:=h;refine gB ?_;have lx:=hP.1;have e30:(10:Int)^Int.toNat 30=10^30:=rfl;have b30:=z4p (m/64) (show (0:Int)<10^30 by decide);walk_at "wpd";have e31:(10:Int)^30+2<=10^31:=by decide
 have e900:(10:Int)^31<2^900:=by decide +kernel
 have d60:∀u∈ws,u.1∣60:=fun u hu=>y8A (hw u hu).1.1 (hw u hu).2;refine⟨dv _ _ (by decide) (by decide),by decide,fun _=>⟨dv _ _ (by decide) (by decide),⟨by decide,by decide,by decide⟩,by decide,.inl ⟨rfl,_,SqL.of hd⟩,dv _ _ (by decide) (by decide),?_⟩,fun _=>?_⟩
 ·rw[e30];generalize hper:2+m/64%10^30=per;have b5:=z4p (m/5) (show (0:Int)<per by omega);refine⟨by omega,fun p np=>⟨D,xs,_,rfl,rfl,zJ np _ _ _ hd,by rw[u4Q];omega,?_⟩⟩;refine pA fun Gd gC=>?_;obtain⟨s1,s2,s3⟩:=snoc (per,m/5%per,1) g hd hP np;refine gC ?_;have wk:∀u∈ws++[(per,m/5%per,1)],Wk u/\u.1<=10^31:=fun u hu=>by
   rcases u4H.mp hu with hu|hu
   ·have:=hw u hu;exact⟨this.1,by omega⟩
   ·rw[u4O.mp hu];exact⟨⟨by show 1<=per;omega,b5.1,b5.2,show (1:Int)<=1 by decide,by show 1<=per;omega⟩,by show per<=10^31;omega⟩
  exact q D _ _ _ s1 nD s2 s3 ⟨⟨⟨fun u hu=>(wk u hu).1,fun u hu=>Int.lt_of_le_of_lt (wk u hu).2 e900,by simp;omega⟩,by simp;omega,fun u hu=>(wk u hu).2⟩,.inr ⟨ws,_,rfl,d60⟩⟩
 ·exact q D xs ws _ g nD hd hP ⟨⟨⟨fun u hu=>(hw u hu).1,fun u hu=>by have:=(hw u hu).2;omega,by omega⟩,by omega,fun u hu=>by have:=(hw u hu).2;omega⟩,.inl ⟨60,by decide,by decide,d60⟩⟩
theorem z5p {C N:Addr} {vs:List V} {H:Hp} {Q Q2:VK} {E E2:XK} (h:jb K C N vs H Q E) (hq:∀v H',Q v H'->Q2 v H') (he:∀c x H',E c x H'->E2 c x H'):jb K C N vs H Q2 E2:=by
 refine pA fun Ge gE=>?_;obtain⟨d,pd,l,n,L,e,hk,hn,hl,h⟩:=h;refine gE ?_;refine⟨d,pd,l,n,L,e,hk,hn,hl,h.imp (fun⟨h,nm,rs,ws,er,pr,kp,q⟩=>⟨h,nm,rs,ws,er,pr,kp,fun H' o dk=>hq _ _ (q H' o dk)⟩) fun⟨n1,n2,ws,us,hd,rs,e1,e2,er,h⟩=>⟨n1,n2,ws,us,hd,rs,e1,e2,er,h.imp (fun⟨a,b,B,sm,qx,q⟩=>⟨a,b,B,sm,fun c x H' g hx=>he _ _ _ (qx c x H' g hx),fun c z H' g hz=>hq _ _ (q c z H' g hz)⟩) (·.imp (fun⟨a,p,b,ok,dp,kp,k1,k2,q⟩=>⟨a,p,b,ok,dp,kp,k1,k2,fun z H' g hz=>hq _ _ (q z H' g hz)⟩) fun⟨a,t1,t2,k1,k2,b,h1,h2,q⟩=>⟨a,t1,t2,k1,k2,b,h1,h2,fun r H' g hr=>hq _ _ (q r H' g hr)⟩)⟩⟩
theorem y6f (v:V):List.lookup (u3t "told") [((u3t "plans"),v)]=none:=by
 rw[u5O,show ((u3t "told") == (u3t "plans"))=false by decide +kernel];rfl
noncomputable def kS (K:u3q) (C N:Addr):Sp:=fun vs H Q _=>jb K C N vs H (fun v H'=>∃z,v=.str z/\Q v H') (fun c ox H'=>∃x:Addr,ox=some x/\c=.ref N/\H' x=none/\∀(t:Addr) (H'':Hp),Same H' H''->H'' t=some (.tup [.str (u3t "refused")])->Q (.ref t) H'')
theorem z8p {C u0B u1A u0E u0h u0A u0f u0R u0W:Addr} (u0b:Cls K C) (u0c:OX K mg "MeetError" u0B VE) (u1M:OX K mg "NoPlan" u1A (.ref u0B::VE)) (u0N:OX K mg "NoPaper" u0E (.ref u0B::VE)) (u0p:OX K mg "NoPrimes" u0h (.ref u0B::VE)) (u0G:OX K mg "TooMany" u0A (.ref u0B::VE)) (u0g:OX K mg "NoText" u0f (.ref u0B::VE)) (u0e:OX K mg "NoName" u0R (.ref u0B::VE)) (u0X:OX K mg "NoRow" u0W (.ref u0B::VE)) (u0V:OC K u0A) (ndE:[u0B,u1A,u0E,u0h,u0A,u0f,u0R,u0W].Nodup) (T:TF K mg "_law_told" wL) (u0F:mg "isinstance" = none) (u0I:mg "str" = none) (u1N:mg "ValueError" = none) (u2n:HasMX P w K mg base 88 C "told" ["self", "row"] (jb K C u0A)):Has P w K mg base 89 "_law_told" ["desk", "row"] (kS K C u0A):=by
 refine T.has yw (fun _ _ _ _ _ _=>L2.bnd2 fun _ _=>rfl) (fun vs H Q E h=>?_) (fun f cdv A outer s H vs Q E hr h=>?_)
 ·refine pA fun Gf gG=>?_;obtain⟨d,pd,l,n,L,rfl,_⟩:=h;refine gG ?_;rfl
 have h0:=h;refine pA fun Gg gH=>?_;obtain⟨d,pd,l,n,L,rfl,⟨⟨dx,hd⟩,_⟩,_⟩:=h0;refine gH ?_;refine⟨_,(zC (zQ (i:=2) yw.nd rfl (Or.inl rfl) yI) (zC (zQ (i:=3) yw.nd rfl (Or.inl rfl) yI) (zC (yP (z7X rfl rfl rfl (z2w (i:=3) yw.nd rfl (Or.inl rfl) (y4M rfl (pv 0) u0b (u2n.mono (by first|decide|omega)) hr (zB (pv 1) zE))) (wT (i:=4) rfl yw.nd (fun _=>z7Y u0G u0c) (fun _=>(zF (zQ (i:=2) yw.nd rfl (Or.inl rfl) (pv 4)))) z7Z))) (zC (yP (zh (PW.pt (z0a (yE (zf (CallR.or (j4 u0X) (xg u0V u0G (by simp) u0X)) rfl u0F (by decide +kernel) (zB (pv 2) (zB (xN (v:=.ref u0W) rfl u0X.bound rfl) zE))) (fun _=>rfl)) (z0a (yE (zf (CallR.or (j4 u0g) (xg u0V u0G (by simp) u0g)) rfl u0F (by decide +kernel) (zB (pv 2) (zB (xN (v:=.ref u0f) rfl u0g.bound rfl) zE))) (fun _=>rfl)) (vB (yE (zf (CallR.or (j4 u1M) (xg u0V u0G (by simp) u1M)) rfl u0F (by decide +kernel) (zB (pv 2) (zB (xN (v:=.ref u1A) rfl u1M.bound rfl) zE))) (fun _=>rfl)))))) (zF (zL zM)) zP)) (zC (yP (zh (PW.pt (z0a (yE (zf (CallR.or (j4 u0N) (xg u0V u0G (by simp) u0N)) rfl u0F (by decide +kernel) (zB (pv 2) (zB (xN (v:=.ref u0E) rfl u0N.bound rfl) zE))) (fun _=>rfl)) (z0a (yE (zf (CallR.or (j4 u0p) (xg u0V u0G (by simp) u0p)) rfl u0F (by decide +kernel) (zB (pv 2) (zB (xN (v:=.ref u0h) rfl u0p.bound rfl) zE))) (fun _=>rfl)) (vB (yE (zf (CallR.or (j4 u0e) (xg u0V u0G (by simp) u0e)) rfl u0F (by decide +kernel) (zB (pv 2) (zB (xN (v:=.ref u0R) rfl u0e.bound rfl) zE))) (fun _=>rfl)))))) (zF (zL zM)) zP)) (zC (yP (zh (PW.pt (z4b (yE (zf (CallR.or (j4 u0G) (xg u0V u0G (by simp) u0G)) rfl u0F (by decide +kernel) (zB (pv 2) (zB (xN (v:=.ref u0A) rfl u0G.bound rfl) zE))) (fun _=>rfl)) (z0b (yE (zf (y1V (T:= "ValueError") u0G (by simp) (by decide +kernel)) rfl u0F (by decide +kernel) (zB (pv 2) (zB (z3D (v:=.ty "ValueError") rfl u1N (by decide +kernel) rfl) zE))) (fun _=>rfl))))) (zF (zL (yF (zB zM zE)))) zP)) (zC (zh (PW.pt (z4b (zR z1z (pv 2) yI (zV _)) (z0b (yE (zf z3s rfl u0F (by decide +kernel) (zB (pv 3) (zB (z3D (v:=.ty "str") rfl u0I (by decide +kernel) rfl) zE))) (fun _=>rfl))))) (zF (zL (pv 3))) zP) (zF (zL zM))))))))),?_⟩;walk_at "wpd";simp only [u6E,u3w,u4B,or_false,not_or] at ndE;refine pA fun Gh gI=>?_;obtain⟨⟨m1,m2,m3,m4,m5,m6,m7⟩,⟨p2,p3,p4,p5,p6,p7⟩,⟨q3,q4,q5,q6,q7⟩,⟨r4,r5,r6,r7⟩,⟨t5,t6,t7⟩,_⟩:=ndE;refine gI ?_;have nc:∀C':Addr,u0A≠C'->u0B≠C'->(u4J u0A::u4J u0B::VE).contains (u4J C')=false:=fun C' h1 h2=>by
  simp only [List.contains_cons,Bool.or_eq_false_iff,beq_eq_false_iff_ne,ne_eq,u4J.injEq];exact⟨fun e=>h1 e.symm,fun e=>h2 e.symm,by simp⟩
 obtain⟨M,hM⟩:∃M:St->Hp->Prop,M=fun σ H'=>∃v u:V,σ=[some (.ref d),some (.str (tx l)),some v,some u,none]/\((v=.non/\∃z,u=.str z/\Q u H')∨∃x,v=.ref x/\H' x=some (y1d x (.ref u0A))/\∀(t:Addr) (H'':Hp),Same H' H''->H'' t=some (.tup [.str (u3t "refused")])->Q (.ref t) H''):=⟨_,rfl⟩
 refine⟨M,?_,fun σ H1 h1=>?_⟩
 ·unfold y5U;walk_at "wpd";refine⟨d,dx,_,rfl,hd,y6f _,z5p h (fun v H1 ⟨z,ez,q⟩=>?_) (fun c ox H1 ⟨x,ex,ec,nx,q⟩=>⟨x,ex,?_⟩)⟩
  ·rw[hM];exact⟨_,_,rfl,.inl ⟨rfl,z,ez,q⟩⟩
  ·subst ec;have hc:(u4J u0A::u4J u0B::VE).contains (u4J u0B)=true:=by simp
   refine⟨rfl,?_⟩;unfold y1m;rw[hc];unfold z2M;walk_at "wpd";rw[hM];exact⟨_,_,rfl,.inr ⟨x,rfl,zH,fun t H'' g ht=>q t H'' ((zJ nx _).trans g) ht⟩⟩
 rw[hM] at h1;refine pA fun Gi gJ=>?_;obtain⟨v,u,rfl,hv⟩:=h1;refine gJ ?_;have hm:M [some (.ref d),some (.str (tx l)),some v,some u,none] H1:=by rw[hM];exact⟨_,_,rfl,hv⟩
 walk_at "wpd";refine⟨M,?_,fun σ H2 h2=>?_⟩
 ·walk_at "wpd";rcases id hv with⟨rfl,_⟩|⟨x,rfl,hx,_⟩
  ·exact .inl ⟨rfl,.inl ⟨rfl,.inl ⟨rfl,hm⟩⟩⟩
  ·exact .inr ⟨x,rfl,hx,false,by rw[nc _ t7 m7],(fun c=>nomatch c),fun _=>.inr ⟨x,rfl,hx,false,by rw[nc _ t5 m5],(fun c=>nomatch c),fun _=>.inr ⟨x,rfl,hx,false,by rw[nc _ (Ne.symm p4) m1],(fun c=>nomatch c),fun _=>hm⟩⟩⟩
 clear hm hv;rw[hM] at h2;refine pA fun Gj gK=>?_;obtain⟨v,u,rfl,hv⟩:=h2;refine gK ?_;have hm:M [some (.ref d),some (.str (tx l)),some v,some u,none] H2:=by rw[hM];exact⟨_,_,rfl,hv⟩
 walk_at "wpd";refine⟨M,?_,fun σ H3 h3=>?_⟩
 ·walk_at "wpd";rcases id hv with⟨rfl,_⟩|⟨x,rfl,hx,_⟩
  ·exact .inl ⟨rfl,.inl ⟨rfl,.inl ⟨rfl,hm⟩⟩⟩
  ·exact .inr ⟨x,rfl,hx,false,by rw[nc _ (Ne.symm q4) m2],(fun c=>nomatch c),fun _=>.inr ⟨x,rfl,hx,false,by rw[nc _ (Ne.symm r4) m3],(fun c=>nomatch c),fun _=>.inr ⟨x,rfl,hx,false,by rw[nc _ t6 m6],(fun c=>nomatch c),fun _=>hm⟩⟩⟩
 clear hm hv;rw[hM] at h3;refine pA fun Gk gL=>?_;obtain⟨v,u,rfl,hv⟩:=h3;refine gL ?_;walk_at "wpd";refine⟨fun σ H'=>∃z,σ=[some (.ref d),some (.str (tx l)),some .non,some (.str z),none]/\Q (.str z) H',?_,?_⟩
 ·walk_at "wpd";rcases hv with⟨rfl,z,rfl,qz⟩|⟨x,rfl,hx,q⟩
  ·exact .inl ⟨rfl,z,rfl,qz⟩
  ·exact .inr ⟨x,rfl,hx,true,by simp,(fun _=>⟨x,rfl,hx,true,rfl,(fun _ p np=>q p _ (zJ np _) zH),fun c=>absurd rfl c⟩),fun c=>absurd rfl c⟩
 rintro σ H4 ⟨z,rfl,q⟩;walk_at "wpd";exact⟨_,_,_,true,rfl,.str _,rfl,_,rfl,(fun _=>q),fun c=>absurd rfl c⟩
noncomputable def z1i (K:u3q):Sp:=fun vs H Q _=>∃(a b:Addr) (xs ys:List V) (ws us:List T3),vs=[.ref a,.ref b]/\H a=some (.lst xs)/\Pl H xs ws/\H b=some (.lst ys)/\Pl H ys us/\KdP ws/\KdP us/\(5000<rnS ws us->∀t H',Same H H'->H' t=some (.tup [.str (u3t "refused")])->Q (.ref t) H')/\(rnS ws us<=5000->∀H',Same H H'->(xP (shs ws us) (rnS ws us).toNat=none->Q .non H')/\∀i,xP (shs ws us) (rnS ws us).toNat=some i->DgOk i->Q (.str (tx (y3f++dg i))) H')
theorem z5L {u0A:Addr} {bm:List Value} (T:TF K mg "_law_lonely" jw) (u0J:mg "list" = none) (u0I:mg "str" = none) (u0G:OX K mg "TooMany" u0A bm) (u0z:HasX P w K mg base 5 "lonely_shift" ["one", "other"] (wF K u0A)):Has P w K mg base 6 "_law_lonely" ["one", "other"] (z1i K):=by
 refine T.has y3 (fun _ _ _ _ _ _=>L2.bnd2 fun _ _=>rfl) (fun vs H Q E h=>?_) (fun f cdv A outer s H vs Q E hr h=>?_)
 ·refine pA fun Gm gM=>?_;obtain⟨a,b,xs,ys,ws,us,rfl,_⟩:=h;refine gM ?_;rfl
 refine pA fun Gn gN=>?_;obtain⟨a,b,xs,ys,ws,us,rfl,ha,hP,hb,hP2,kw,ku,qx,q⟩:=h;refine gN ?_;refine⟨_,(zC (zQ (i:=2) y3.nd rfl (Or.inl rfl) yI) (zC (zQ (i:=3) y3.nd rfl (Or.inl rfl) yI) (zC (yP (z7X rfl rfl rfl (z2w (i:=3) y3.nd rfl (Or.inl rfl) (z2x rfl (u0z.mono (by first|decide|omega)) hr (zB (zZ zn rfl u0J (by decide +kernel) (zB (pv 0) zE)) (zB (zZ zn rfl u0J (by decide +kernel) (zB (pv 1) zE)) zE)))) (wT (i:=4) rfl y3.nd (fun _=>z7Y u0G u0G) (fun _=>(zF (zQ (i:=2) y3.nd rfl (Or.inl rfl) (pv 4)))) z7Z))) (zC (zh (zR kF (pv 2) yI (zV _)) (zF (zL (yF (zB zM zE)))) zP) (zC (zh (zR z1z (pv 3) yI (zV _)) (zF (zL yI)) zP) (zF (zL (zN zX zM (zZ zx rfl u0I (by decide +kernel) (zB (pv 3) zE)))))))))),?_⟩;walk_at "wpd";obtain⟨M,hM⟩:∃M:St->Hp->Prop,M=fun σ H'=>∃v u:V,σ=[some (.ref a),some (.ref b),some v,some u,none]/\Same H H'/\((v=.non/\rnS ws us<=5000/\u=oV (xP (shs ws us) (rnS ws us).toNat))∨∃x,v=.ref x/\5000<rnS ws us):=⟨_,rfl⟩
 refine⟨M,?_,fun σ H1 h1=>?_⟩
 ·unfold y5U;walk_at "wpd";refine⟨a,xs,rfl,.inl (SqL.of ha),fun l1 n1=>?_⟩;have g1:=zJ n1 (.lst xs);have h1:=zH (H:=H) (a:=l1) (o:=.lst xs);generalize upd H l1 (.lst xs)=H1 at g1 h1 ⊢;refine⟨b,ys,rfl,.inl (SqL.of (g1 _ _ hb)),fun l2 n2=>?_⟩;have g2:=zJ n2 (.lst ys);have h2:=zH (H:=H1) (a:=l2) (o:=.lst ys);generalize upd H1 l2 (.lst ys)=H2 at g2 h2 ⊢;have G2:=g1.trans g2;have lw:=kw.2.1;have lu:=ku.2.1;refine⟨l1,l2,xs,ys,ws,us,rfl,SqL.of (g2 _ _ h1),hP.same G2,SqL.of h2,hP2.same G2,kw.1.1,ku.1.1,fun u hu=>(kw.big u hu).2,by omega,by omega,fun c x H3 g3 hx=>⟨x,rfl,rfl,?_⟩,fun c H3 g3=>?_⟩
  ·have hc:(u4J u0A::bm).contains (u4J u0A)=true:=by simp
   unfold y1m;rw[hc];unfold z2M;walk_at "wpd";rw[hM];exact⟨_,_,rfl,(G2.trans g3).trans (zJ hx _),.inr ⟨x,rfl,c⟩⟩
  ·rw[hM];exact⟨_,_,rfl,G2.trans g3,.inl ⟨rfl,c,rfl⟩⟩
 rw[hM] at h1;refine pA fun Go gO=>?_;obtain⟨v,u,rfl,g1,hv⟩:=h1;refine gO ?_;walk_at "wpd";rcases hv with⟨rfl,c,rfl⟩|⟨x,rfl,c⟩
 ·refine⟨fun c=>absurd rfl c,fun _=>?_⟩;obtain⟨q1,q2⟩:=q c H1 g1;cases e:xP (shs ws us) (rnS ws us).toNat with
  | none=>exact⟨fun _=>q1 e,fun c=>absurd rfl c⟩
  | some i=>
   have ib:0<=i/\i<5000:=by
    rcases wY (ws:=shs ws us) (n:=(rnS ws us).toNat) with⟨j,e2,h2⟩|⟨e2,_⟩
    ·rw[e] at e2;cases e2;omega
    ·rw[e] at e2;cases e2
   have e100:(5000:Int)<10^100:=by decide +kernel
   have n1:y3f.length=10:=by decide +kernel
   have dk:=z8y (n:=i) ib.1 (by omega);have l1:=dk.len;refine⟨(fun c=>nomatch c),fun _=>⟨i,rfl,dk.sz,?_⟩⟩;rw[show u3t "lonely at " = tx y3f from (yn _).symm,ym];refine⟨_,_,rfl,rfl,by rw[zU,zU];omega,?_⟩;rw[yd];exact q2 i e dk
 ·exact⟨fun _ p np=>qx c p _ (g1.trans (zJ np _)) zH,fun c=>absurd (fun z=>nomatch z) c⟩
theorem y3R {c:Nat} {r:List Nat}:∀ {p:List Nat},c∉p->(p++c::r).takeWhile (· != c)=p
 | [],_=>by simp
 | x::xs,h=>by
  have ih:=y3R (c:=c) (r:=r) (p:=xs) fun z=>h (u4Z _ z);have ne:(x != c)=true:=by simp;exact fun e=>h (by simp [e])
  rw[u5G,List.takeWhile_cons,ne];simp only [if_true];rw[ih]
theorem z1s {w v:List Nat} {ws:List (List Nat)} {f:List Str} (h1:z1L.lookup (tx w)=some f) (hl:ws.length+1=f.length) (h2:32∉w) (h3:∀p∈(v::ws).dropLast,32∉p) (hf:qg f (v::ws)=true):qd (glu 32 (w::v::ws))=some (w::v::ws):=by
 have e1:glu 32 (w::v::ws)=w++32::glu 32 (v::ws):=rfl;have e2:z5R (glu 32 (w::v::ws))=some f:=by
  unfold z5R;rw[e1,y3R h2,h1]
 have e3:j5 32 (glu 32 (w::v::ws)) f.length=w::v::ws:=z7C _ _ (by simp) (by simp;omega) (fun p hp=>by
  rw[List.dropLast_cons_of_ne_nil (by simp)] at hp;rcases u3w.mp hp with rfl|hp
  ·exact h2
  ·exact h3 p hp) (fun z=>by simp at z;omega)
 unfold qd;rw[e2];show (if (j5 32 (glu 32 (w::v::ws)) f.length).length=f.length+1/\qg f (j5 32 (glu 32 (w::v::ws)) f.length).tail=true then some (j5 32 (glu 32 (w::v::ws)) f.length) else none)=_;rw[e3,if_pos ⟨by simp;omega,hf⟩]
theorem qG {l:List Nat} (h:nmB l=true):32∉l:=fun z=>by
 unfold nmB at h;rw[u4a,u4a,u5y] at h;have:=of_decide_eq_true (h.2.2 32 z);omega
theorem jX {l:List Nat} (h:nmB l=true):l.length<=8/\∀x∈l,x<128:=by
 unfold nmB at h;rw[u4a,u4a,u5y,decide_eq_true_eq] at h;exact⟨of_decide_eq_true h.2.1,fun x hx=>by have:=of_decide_eq_true (h.2.2 x hx);omega⟩
theorem z9i {n:Int} (h:SgOk n):32∉dg n:=fun z=>by
 have:=h.sg 32 z;omega
theorem kU {n:Int} (h:SgOk n):∀x∈dg n,x<128:=fun x hx=>by
 have:=h.sg x hx;omega
theorem qX {l:List Nat}:y1c "name" l=nmB l:=rfl
theorem y3E {l:List Nat}:y1c "turn" l=z4C l:=rfl
theorem z7t {l:List Nat}:y1c "text" l=true:=rfl
theorem y2C {nm t:List Nat} (h:nmB nm=true):qd (glu 32 [z6F,nm,t])=some [z6F,nm,t]:=
 z1s (f:=["name", "text"]) (by rfl) rfl (by decide) (fun p hp=>by
  have:p=nm:=by simpa [List.dropLast] using hp
  rw[this];exact qG h) (by simp only [qg,qX,z7t,h];rfl)
theorem y2B {n1 n2:List Nat} (h1:nmB n1=true) (h2:nmB n2=true):qd (glu 32 [z2f,n1,n2])=some [z2f,n1,n2]:=
 z1s (f:=["name", "name"]) (by rfl) rfl (by decide) (fun p hp=>by
  have:p=n1:=by simpa [List.dropLast] using hp
  rw[this];exact qG h1) (by simp only [qg,qX,h1,h2];rfl)
theorem y2E {n1 n2:List Nat} {k1 k2:Int} (h1:nmB n1=true) (h2:nmB n2=true) (hk1:SgOk k1) (hk2:SgOk k2):qd (glu 32 [z3J,n1,n2,dg k1,dg k2])=some [z3J,n1,n2,dg k1,dg k2]:=
 z1s (f:=["name", "name", "turn", "turn"]) (by rfl) rfl (by decide) (fun p hp=>by
  have:p=n1∨p=n2∨p=dg k1:=by simpa [List.dropLast] using hp
  rcases this with rfl|rfl|rfl
  ·exact qG h1
  ·exact qG h2
  ·exact z9i hk1) (by simp only [qg,qX,y3E,h1,h2,hk1.turn,hk2.turn];rfl)
theorem y6F {n:Int} (h0:-(10^60)<=n) (h1:n<=10^60):y7D (dg n) n:=by
 have e:(10:Int)^60<2^400:=by decide +kernel
 have e2:(10:Int)^60<10^100:=by decide +kernel
 have ei:((2^400:Nat):Int)=2^400:=by rw[Int.natCast_pow];rfl
 have s:=y5k (n:=n) (by omega) (by omega);refine⟨s.rd,by have:=s.len;omega,?_⟩;rw[←ei] at e;generalize (2:Nat)^400=B at *
 omega
theorem z9p {n1 n2 t:List Nat} (h1:nmB n1=true) (h2:nmB n2=true):qd (glu 32 [qm,n1,n2,t])=some [qm,n1,n2,t]:=
 z1s (f:=["name", "name", "text"]) (by rfl) rfl (by decide) (fun p hp=>by
  have:p=n1∨p=n2:=by simpa [List.dropLast] using hp
  rcases this with rfl|rfl
  ·exact qG h1
  ·exact qG h2) (by simp only [qg,qX,z7t,h1,h2];rfl)
theorem z1F {n:Int} (h0:0<=n) (h1:n<=9):z5n 12 (dg n)=true/\z5n 50 (dg n)=true:=by
 have h:=(show ∀k:Fin 10,z5n 12 (dg (k.val:Int))=true/\z5n 50 (dg (k.val:Int))=true by decide +kernel) ⟨n.toNat,by omega⟩
 rwa [u6h h0] at h
theorem y0z {l:List Nat}:y1c "prime" l=z5n 12 l:=rfl
theorem z8v {l:List Nat}:y1c "number" l=z5n 50 l:=rfl
theorem y2D {nm:List Nat} {a b:Int} (h:nmB nm=true) (a0:0<=a) (a1:a<=9) (b0:0<=b) (b1:b<=9) (sa:SgOk a):qd (glu 32 [z3E,nm,dg a,dg b])=some [z3E,nm,dg a,dg b]:=
 z1s (f:=["name", "prime", "prime"]) (by rfl) rfl (by decide) (fun p hp=>by
  have:p=nm∨p=dg a:=by simpa [List.dropLast] using hp
  rcases this with rfl|rfl
  ·exact qG h
  ·exact z9i sa) (by simp only [qg,qX,y0z,h,(z1F a0 a1).1,(z1F b0 b1).1];rfl)
theorem y2F {nm:List Nat} {a:Int} (h:nmB nm=true) (a0:0<=a) (a1:a<=9):qd (glu 32 [z5N,nm,dg a])=some [z5N,nm,dg a]:=
 z1s (f:=["name", "number"]) (by rfl) rfl (by decide) (fun p hp=>by
  have:p=nm:=by simpa [List.dropLast] using hp
  rw[this];exact qG h) (by simp only [qg,qX,z8v,h,(z1F a0 a1).2];rfl)
noncomputable def sp_law (K:u3q):Sp:=fun vs H Q _=>∃(a:Addr) (ns:List Int),vs=[.ref a]/\SqL K H a (ns.map V.int)/\ns.length<=63/\(∀z∈ns,u4d z<=2^20)/\∀H',Q (.bl true) H'
theorem sp_start (K:u3q) (H:Hp) (a:Addr) (ns:List Int) (h1:ns.length<=63) (hb:∀z∈ns,u4d z<=2^20) (h2:SqL K H a (ns.map V.int)):sp_law K [.ref a] H (fun v _=>v=.bl true) fun _ _ _=>False:=⟨a,ns,rfl,h2,h1,hb,fun _=>rfl⟩
theorem zr (k l:List Nat):tx k++tx l=tx (k++l):=by
 show Str.mk _=Str.mk _;congr 1;simp [tx]
theorem z7e (z y:Str) (hi i f:Nat):∀(n k:Nat),(forIn (u6O k n) (#[i],f) (u4V z y hi 1)).run=(#[i],f)
 | 0,k=>rfl
 | n+1,k=>by
  show (forIn (k::u6O (k+1) n) (#[i],f) (u4V z y hi 1)).run=_;rw[u6J];have hb:u4V z y hi 1 k (#[i],f)=pure (u5m (#[i],f)):=by
   unfold u4V;exact if_neg fun h=>by have:=h.1.1.1;simp at this
  rw[hb];exact z7e z y hi i f n (k+1)
theorem z7d (z y:Str) (hi i m:Nat) (h1:i+y.length<=hi) (h2:u5V z y i=true):∀(n k:Nat),k+n=i->(∀j,k<=j->j<i->u5V z y j=false)->(forIn (u6O k (n+(m+1))) (#[],0) (u4V z y hi 1)).run=(#[i],i+y.length)
 | 0,k,e,_=>by
  have e:k=i:=by omega
  subst e;rw[Nat.zero_add];show (forIn (k::u6O (k+1) m) (#[],0) (u4V z y hi 1)).run=_;rw[u6J];have hb:u4V z y hi 1 k (#[],0)=pure (u5m (#[k],k+y.length)):=by
   unfold u4V;exact if_pos ⟨⟨⟨by simp,u4q _⟩,h1⟩,h2⟩
  rw[hb];exact z7e z y hi k _ m (k+1)
 | n+1,k,e,hn=>by
  rw[show n+1+(m+1)=(n+(m+1))+1 by omega];show (forIn (k::u6O (k+1) (n+(m+1))) (#[],0) (u4V z y hi 1)).run=_;rw[u6J];have hb:u4V z y hi 1 k (#[],0)=pure (u5m (#[],0)):=by
   unfold u4V;exact if_neg fun h=>by rw[hn k (u3y _) (by omega)] at h;exact nomatch h.2
  rw[hb];exact z7d z y hi i m h1 h2 n (k+1) (by omega) fun j h3 h4=>hn j (by omega) h4
theorem y0F {z y:Str} {i:Nat} (h1:i+y.length<=z.length) (h2:u5V z y i=true) (h3:∀j,j<i->u5V z y j=false):u4s z y 0 z.length 1=[i]:=by
 rw[StrLaws.occ_eq];have e:z.length+1-0=i+((z.length-i)+1):=by omega
 rw[e,z7d z y z.length i (z.length-i) h1 h2 i 0 (by omega) fun j _ hj=>h3 j hj]
theorem y4Y {l r:List Nat} (hl:98∉l):u5d (tx (l++bbL++r)) (tx bbL)=(tx l,tx bbL,tx r):=by
 have nb:bbL.length=4:=by decide +kernel
 have b0:bbL[0]?=some 32:=by decide +kernel
 have b1:bbL[1]?=some 98:=by decide +kernel
 have sb:∀j,u5V (tx (l++bbL++r)) (tx bbL) j=true->j+bbL.length<=(l++bbL++r).length->((l++bbL++r).drop j).take bbL.length=bbL:=fun j h h2=>by
  have:=z6z (l++bbL++r) bbL j (by rw[nb];decide);rw[h,zU,zU,decide_eq_true h2] at this;exact of_decide_eq_true this.symm
 have occ:u4s (tx (l++bbL++r)) (tx bbL) 0 (tx (l++bbL++r)).length 1=[l.length]:=by
  refine y0F ?_ ?_ fun j hj=>?_
  ·rw[zU,zU];simp only [u3s];omega
  ·have:=z6z (l++bbL++r) bbL l.length (by rw[nb];decide);have e:((l++bbL++r).drop l.length).take bbL.length=bbL:=by
    rw[u4m,List.drop_left,u6V]
   rw[decide_eq_true e] at this;rw[u4a] at this;exact this.2
  ·cases c:u5V (tx (l++bbL++r)) (tx bbL) j with
   | false=>rfl
   | true=>
    exfalso;have e:=sb j c (by simp only [u3s];omega);have e0:(((l++bbL++r).drop j).take bbL.length)[1]?=some 98:=by rw[e];exact b1
    rw[List.getElem?_take_of_lt (by omega),List.getElem?_drop,u4m] at e0;by_cases k:j+1<l.length
    ·rw[u4k k] at e0;exact hl (u4F e0)
    ·rw[u4f (by omega),u4k (by omega),show j+1-l.length=0 by omega,b0] at e0;cases e0
 unfold u5d;rw[occ];show (Builtin.Str.strSub (tx (l++bbL++r)) 0 l.length,tx bbL,Builtin.Str.strSub (tx (l++bbL++r)) (l.length+(tx bbL).length) (tx (l++bbL++r)).length)=_;have e1:Builtin.Str.strSub (tx (l++bbL++r)) 0 l.length=tx l:=by
  rw[xA,zj,List.drop_zero,Nat.sub_zero,u4m,u6V]
 have e2:Builtin.Str.strSub (tx (l++bbL++r)) (l.length+(tx bbL).length) (tx (l++bbL++r)).length=tx r:=by
  rw[xA,zj,zU,zU,List.drop_append_of_le_length (by simp),List.drop_of_length_le (by simp)];simp only [u5a];rw[u5C];simp only [u3s];omega
 rw[e1,e2]
mutual
theorem z0c:∀(p:Pap),POk p->∀c∈ptx p,c<128
 | .inn k,h=>fun c hc=>by
  simp only [ptx,u4H] at hc;rcases hc with hc|hc
  ·exact (show ∀z∈inL,z<128 by decide) c hc
  ·have:=h.inn.all c hc;omega
 | .par b ps,h=>fun c hc=>by
  simp only [ptx,u4H] at hc;have hs:=z8b ps h.par.2 c;have hb:=h.par.1.all c;have l1:=(show ∀z∈byL,z<128 by decide) c;have l2:=(show ∀z∈opL,z<128 by decide) c;have l3:=(show ∀z∈clL,z<128 by decide) c;rcases hc with h|h|h|h|h
  ·exact l1 h
  ·have:=hb h;omega
  ·exact l2 h
  ·exact hs h
  ·exact l3 h
theorem z8b:∀(ps:List Pap),POks ps->∀c∈wR ps,c<128
 | [],_=>fun c hc=>by simp [wR] at hc
 | p::ps,h=>fun c hc=>by
  simp only [wR,u4H] at hc;rcases hc with hc|hc
  ·exact z0c p h.cons.1 c hc
  ·exact z1w ps h.cons.2 c hc
theorem z1w:∀(ps:List Pap),POks ps->∀c∈vC ps,c<128
 | [],_=>fun c hc=>by simp [vC] at hc
 | p::ps,h=>fun c hc=>by
  simp only [vC,u4H] at hc;have l1:=(show ∀z∈cmL,z<128 by decide) c;have h1:=z0c p h.cons.1 c;have h2:=z1w ps h.cons.2 c;rcases hc with h|h|h
  ·exact l1 h
  ·exact h1 h
  ·exact h2 h
end
theorem z9f (l:List Nat) (k:Nat):u6e (tx l) none (some (k:Int))=tx (l.take k):=by
 rcases Nat.le_total k l.length with h|h
 ·have e:u6e (tx l) none (some (k:Int))=u6e (tx l) (some ((0:Nat):Int)) (some (k:Int)):=by
   show u5R _ _ _=u5R _ _ _;unfold u5R;have m0:max 0 (min 0 (l.length:Int))=0:=by omega
   rw[zU];simp [u6g,m0]
  rw[e,kT (u4q _) h];simp
 ·have e:u6e (tx l) none (some (k:Int))=u6e (tx l) (some ((0:Nat):Int)) (some (l.length:Int)):=by
   show u5R _ _ _=u5R _ _ _;unfold u5R;rw[zU];have m0:max 0 (min 0 (l.length:Int))=0:=by omega
   have a:¬((k:Int)<0):=by omega
   have b:¬((l.length:Int)<0):=by omega
   have m1:min (k:Int) (l.length:Int)=l.length:=by omega
   simp [u6g,m0,m1,a,b]
  rw[e,kT (u4q _) (u3y _),u5C h];simp
noncomputable def z9H:List (List Nat):=[[],[97,98],[97,97,97,97,97,97,97],[122,122]]
theorem z7A:([V.str (u3t ""),V.str (u3t "ab"),V.str (u3t "aaaaaaa"),V.str (u3t "zz")]:List V)=z9H.map fun l=>V.str (tx l):=by decide +kernel
theorem y1s:∀l∈z9H,l.length<=7/\l.all ltB=true:=by decide
theorem y1u {l:List Nat} {k:Nat} (hk:k<=l.length):u6e (tx l) none (some (k:Int))=tx (l.take k):=by
 have e:u6e (tx l) none (some (k:Int))=u6e (tx l) (some ((0:Nat):Int)) (some (k:Int)):=by
  show u5R _ _ _=u5R _ _ _;unfold u5R;have m0:max 0 (min 0 (l.length:Int))=0:=by omega
  rw[zU];simp [u6g,m0]
 rw[e,kT (u4q _) hk];simp
noncomputable def z4H:Sp:=fun vs H Q _=>∃c:Int,vs=[.int c]/\u4d c<=2^20/\∀(D:Addr) (nms:List (List Nat)) (H':Hp),Same H H'->H D=none->H' D=some (.lst ((nms.map tx).map V.str))->nms.length=3->(∀x∈nms,nmB x=true)->Q (.ref D) H'
theorem z6V (T:TF K mg "_law_names" qv) (u0D:mg "len" = none) (u1B:Has P w K mg base 1 "_law_big" ["cell"] z7Q):Has P w K mg base 2 "_law_names" ["cell"] z4H:=by
 refine T.has xk (fun _ _ _ _ _ _=>L2.bnd1 fun _=>rfl) (fun vs H Q E h=>?_) (fun f cdv A outer s H vs Q E hr h=>?_)
 ·refine pA fun Gp gP=>?_;obtain⟨c,rfl,_⟩:=h;refine gP ?_;rfl
 refine pA fun Gq gQ=>?_;obtain⟨c,rfl,hc,q⟩:=h;refine gQ ?_;refine⟨_,(zC (zQ (i:=1) xk.nd rfl (Or.inl rfl) (zS (u1B.mono (by first|decide|omega)) hr (zB (pv 0) zE))) (zC (zQ (i:=2) xk.nd rfl (Or.inr rfl) (zY za (yV (zB zM (zB zM (zB zM (zB zM zE))))) (zN zi (pv 1) zG) (fun _ _=>rfl))) (zC (zQ (i:=3) xk.nd rfl (Or.inr rfl) (zN zi (zN zk (pv 1) zG) (zN xI (zf yJ rfl u0D u4n (zB (pv 2) zE)) zG))) (zF (zL (yz (CompSc.capt (own:=["sign"]) (capt:=["stem", "place"]) (fr:=[2,3]) rfl ⟨rfl,rfl,rfl,rfl,rfl,⟨rfl,rfl,rfl,rfl,rfl,trivial⟩⟩ (by decide +kernel) (by decide +kernel) rfl (by decide +kernel)) rfl (yQ (yV (zB zM (zB zM (zB zM zE))))) (fun _ _ _=>(zd (i:=0) (show (["sign", "stem", "place"]:List Str).Nodup from by decide +kernel) rfl (Or.inl rfl) (Or.inr rfl))) (fun _ _ _=>yx) (fun _ _ _=>(zN zX (zN zX (xU z4N (pv 1) kE (xc (pv 2))) (pv 0)) (xU z4N (pv 1) (xc (pv 2)) kE))))))))),?_⟩;walk_at "wpd";refine⟨c,rfl,u5I hc (by decide),fun num n0 n1 p np=>?_⟩;have b4:=z4p num (show (0:Int)<4 by decide);have gp:=zJ np (.lst (z9H.map fun l=>V.str (tx l)));refine⟨_,_,rfl,rfl,by show (0:Int)<4;decide,?_⟩;obtain⟨j,hj⟩:∃j:Nat,num%4=(j:Int):=⟨_,(u6h b4.1).symm⟩
 rw[hj] at b4;have jl:j<z9H.length:=by show j<4;omega
 have hs:=u4A jl;have ms:=u5T jl;have hp:(upd H p (.lst [V.str (u3t ""),V.str (u3t "ab"),V.str (u3t "aaaaaaa"),V.str (u3t "zz")])) p=some (.lst (z9H.map fun l=>V.str (tx l))):=by
  rw[zH,z7A]
 rw[←z7A] at gp;generalize upd H p (.lst [V.str (u3t ""),V.str (u3t "ab"),V.str (u3t "aaaaaaa"),V.str (u3t "zz")])=H1 at gp hp ⊢;generalize z9H[j]=stem at hs ms;have st:=y1s stem ms;show y3Y K (V.ref p) (V.int (num%4)) H1 _;rw[hj];refine zc (SqL.of hp) (v:=.str (tx stem)) (ze (by rw[u4T,hs];rfl)) ?_;have tl:=zU stem;refine⟨_,_,rfl,rfl,z7x 10 (by decide) (by decide) (by decide),_,rfl,by omega,_,_,rfl,rfl,by show (0:Int)<_;omega,fun p2 np2=>?_⟩;have bp:=z4p (num/4) (show (0:Int)<((tx stem).length:Int)+1 by omega);obtain⟨k,hk⟩:∃k:Nat,num/4%(((tx stem).length:Int)+1)=(k:Int):=⟨_,(u6h bp.1).symm⟩
 rw[hk] at bp;have kl:k<=stem.length:=by omega
 have g2:=zJ np2 (.lst ([[97],[98],[113]].map fun l=>V.str (tx l)));have s3:[V.str (u3t "a"),V.str (u3t "b"),V.str (u3t "q")]=([[97],[98],[113]]:List (List Nat)).map fun l=>V.str (tx l):=by decide +kernel
 rw[s3];have h2:=zH (H:=H1) (a:=p2) (o:=.lst (([[97],[98],[113]]:List (List Nat)).map fun l=>V.str (tx l)));generalize upd H1 p2 (.lst (([[97],[98],[113]]:List (List Nat)).map fun l=>V.str (tx l)))=H2 at g2 h2 ⊢;have G2:=gp.trans g2;refine⟨⟨_,SqL.of h2⟩,?_⟩;show z1M _ _ _ _ _ _ [some (.int c),some (.int num),some (.str (tx stem)),some (.int (num/4%(((tx stem).length:Int)+1)))] H2 Q;rw[hk];let nmf:List Nat->List Nat:=fun sg=>stem.take k++sg++stem.drop k;obtain⟨Sv,hSv⟩:∃Sv:St->Prop,Sv=fun σ=>∃o,σ=[o,some (.str (tx stem)),some (.int (k:Int))]:=⟨_,rfl⟩
 obtain⟨Pv,hPv⟩:∃Pv:Addr->Nat->List V->Hp->Prop,Pv=fun D i ys H3=>H2 D=none/\Same H2 H3/\ys=((([[97],[98],[113]].take i).map nmf).map tx).map V.str:=⟨_,rfl⟩
 refine yR (xs:=([[97],[98],[113]]:List (List Nat)).map fun l=>V.str (tx l)) Sv Pv (by rw[hSv];exact⟨none,rfl⟩) (fun D hD=>?_) (fun D i ys H3 hD h=>?_) (fun D i x ys σ H3 hx hi hs hD hy h=>?_) (fun D ys H3 hD h=>?_)
 ·rw[hPv];exact⟨hD,zJ hD _,rfl⟩
 ·rw[hPv] at h;exact SqL.of (h.2.1 _ _ h2)
 ·rw[hSv] at hs;rw[hPv] at h;obtain⟨o,rfl⟩:=hs;refine pA fun Gr gR=>?_;obtain⟨nD,g,rfl⟩:=h;refine gR ?_;rw[u4T] at hx;refine pA fun Gs gU=>?_;obtain⟨sg,hsg,rfl⟩:=u4e.mp hx;refine gU ?_;have lsg:sg.length=1:=by
   have:=u4F hsg;simp only [u3w,u4B,or_false] at this;rcases this with rfl|rfl|rfl <;> rfl
  walk_at "wpd";refine⟨_,rfl,by rw[tl,u4Q];omega,?_⟩;rw[y1u kl];refine⟨_,_,rfl,rfl,by simp only [zU,u5F];omega,_,rfl,by rw[tl,u4Q];omega,?_⟩;rw[z1n kl,zr];refine⟨_,_,rfl,rfl,by simp only [zU,u3s,u5F,u4w];omega,?_⟩;rw[zr];refine CompP.mk hD hy (by rw[u4Q];simp at hi;omega) (by rw[hSv];exact⟨_,rfl⟩) (by
   rw[hPv];refine⟨nD,g.write nD _,?_⟩;rw[u4N,hsg];simp [nmf])
 ·rw[hPv] at h;refine pA fun Gu gW=>?_;obtain⟨nD,g,rfl⟩:=h;refine gW ?_;refine q D ([[97],[98],[113]].map nmf) H3 (G2.trans g) (G2.free nD) hD rfl fun x hx=>?_;refine pA fun Gv gX=>?_;obtain⟨sg,hsg,rfl⟩:=u4l.mp hx;refine gX ?_;have lsg:sg.length=1/\sg.all ltB=true:=by
   simp only [u3w,u4B,or_false] at hsg;rcases hsg with rfl|rfl|rfl <;> decide
  show nmB (stem.take k++sg++stem.drop k)=true;unfold nmB;have len:(stem.take k++sg++stem.drop k).length=stem.length+1:=by
   simp only [u3s,u5F,u4w];omega
  have all:(stem.take k++sg++stem.drop k).all ltB=true:=by
   rw[List.all_append,List.all_append,lsg.2];have e1:(stem.take k).all ltB=true:=u5y.mpr fun x hx=>u5y.mp st.2 x (List.mem_of_mem_take hx);have e2:(stem.drop k).all ltB=true:=u5y.mpr fun x hx=>u5y.mp st.2 x (u6R hx);rw[e1,e2];rfl
  rw[len,all,decide_eq_true (p:=1<=stem.length+1) (by omega),decide_eq_true (p:=stem.length+1<=8) (by have:=st.1;omega)];rfl
theorem y4j {k:Nat} {x:Str} {ps:List Str} {sp:Sp} (h:Has P w K mg base k x ps sp):HasX P w K mg base k x ps sp:=by
 refine pA fun Gw gZ=>?_;obtain⟨f,fd,F,hb,hk,hm,_⟩:=h;refine gZ ?_;refine⟨f,fd,⟨F.len,fun A outer s H args us vs Q E hr e0 hbt hv z=>PySem.codeAny_mono (F.run A outer s H args us vs Q E hr e0 hbt hv z) fun r s' hq=>?_⟩,hb,hk,hm⟩;cases r with
 | error e=>exact u5c hq
 | ok fl=>cases fl <;> exact hq
theorem qZ:u3t " " = tx [32]:=by decide +kernel
theorem wI {z:Str} (h:Asc z):SeqAt.shaped (.str z)=true:=by
 have e:PyData.strOk z=true:=by
  rw[←yn z];exact y1r (y1Y.mp h)
 unfold SeqAt.shaped;simp only [PyData.canLay0,PyData.depth,e,Bool.true_and];exact decide_eq_true (by omega)
theorem z3m {z:Str} {H:Hp} {Q:VK} (h:Asc z) (q:Q (.bl true) H):y6m K (.str z) (.str z) H Q:=by
 refine⟨_,_,.str z,.str z,wI h,wI h,?_⟩;have:PyData.eqv (.str z) (.str z)=true:=by simp [PyData.eqv]
 rw[this];exact q
noncomputable def Lb (H:Hp) (p:Addr) (n:Nat) (L:ky):Prop:=∃kvs,H p=some (.dK kvs)/\kvs.length<=n/\BkAt H kvs L
theorem Lb.same {H H':Hp} {p:Addr} {n:Nat} {L:ky} (h:Lb H p n L) (g:Same H H'):Lb H' p n L:=by
 refine pA fun Gx fA=>?_;obtain⟨kvs,hp,hl,hb⟩:=h;refine fA ?_;exact⟨kvs,g _ _ hp,hl,hb.by (fun b xs e=>g _ _ e) fun b xs e=>g _ _ e⟩
theorem Lb.get {H:Hp} {p:Addr} {n:Nat} {L:ky} {z:Str} {ws:List T3} (h:Lb H p n L) (e:L z=some ws):∃D xs,DGet H p (.str z) (some (.ref D))/\H D=some (.lst xs)/\Pl H xs ws:=by
 refine pA fun Gy fB=>?_;obtain⟨kvs,hp,hl,hb⟩:=h;refine fB ?_;refine pA fun Gz fE=>?_;obtain⟨_,D,xs,e1,e2,e3⟩:=(hb z).2 ws e;refine fE ?_;have dg:=DGet.k (k:=.inr z) hp;rw[e1] at dg;exact⟨D,xs,dg,e2,e3⟩
theorem y3w {H:Hp} {D p:Addr} {n1 n2:List Nat} {n:Nat} {L:ky} {ws us:List T3} {R:V->V->Hp->Prop} (hD:H D=some (.lst [.str (tx n1),.str (tx n2)])) (hL:Lb H p n L) (e1:L (tx n1)=some ws) (e2:L (tx n2)=some us)
  (q:∀l1 l2 xs ys H',Same H H'->H' l1=some (.lst xs)->Pl H' xs ws->H' l2=some (.lst ys)->Pl H' ys us->R (.ref l1) (.ref l2) H') :
  y3Y K (.ref D) (.int 0) H fun x H2=>∃a v,V.ref p=V.ref a/\DGet H2 a x (some v)/\∃p' ys,[v]=[V.ref p']/\(SqL K H2 p' ys∨SqT K H2 p' ys)/\∀l,H2 l=none->y3Y K (.ref D) (.int 1) (upd H2 l (.lst ys)) fun x H3=>∃a v,V.ref p=V.ref a/\DGet H3 a x (some v)/\∃p' ys,[v]=[V.ref p']/\(SqL K H3 p' ys∨SqT K H3 p' ys)/\∀l2,H3 l2=none->R (.ref l) (.ref l2) (upd H3 l2 (.lst ys)):=by
 refine pA fun Ga hU=>?_;obtain⟨F,xs,d1,f1,p1⟩:=hL.get e1;refine hU ?_;refine zc (SqL.of hD) (ze (j:=0) rfl) ⟨p,_,rfl,d1,F,xs,rfl,.inl (SqL.of f1),fun l nl=>?_⟩;have g1:=zJ nl (.lst xs);have h1:=zH (H:=H) (a:=l) (o:=.lst xs);generalize upd H l (.lst xs)=H1 at g1 h1 ⊢;refine pA fun Gb hV=>?_;obtain⟨F2,ys,d2,f2,p2⟩:=(hL.same g1).get e2;refine hV ?_;refine zc (SqL.of (g1 _ _ hD)) (ze (j:=1) rfl) ⟨p,_,rfl,d2,F2,ys,rfl,.inl (SqL.of f2),fun l2 nl2=>?_⟩;have g2:=zJ nl2 (.lst ys);exact q l l2 xs ys _ (g1.trans g2) (g2 _ _ h1) ((p1.same g1).same g2) zH (p2.same g2)
theorem y4w {y:Str} {a b:Addr} {H:Hp} {Q:VK} (hy:Asc y) (ha:H a=some (.tup [.str y])) (hb:H b=some (.tup [.str y])) (q:Q (.bl true) H):y6m K (.ref a) (.ref b) H Q:=by
 have sh:SeqAt.shaped (.tuple [.str y])=true:=by
  have e1:=wI hy;unfold SeqAt.shaped at e1 ⊢;simp only [PyData.canLay0,PyData.depth,PyData.canLayAll0,PyData.depthAll,u4a,decide_eq_true_eq,Bool.and_true] at e1 ⊢;exact⟨e1.1,rfl⟩
 refine⟨_,_,.tup (SqT.of ha) (z3o [y]),.tup (SqT.of hb) (z3o [y]),sh,sh,?_⟩;have:PyData.eqv (.tuple ([y].map PyData.str)) (.tuple ([y].map PyData.str))=true:=by simp [PyData.eqv,PyData.eqvAll]
 rw[this];exact q
inductive NeP:Pap->Prop
 | inn {k:Int}:NeP (.inn k)
 | par {b:Int} {p:Pap} {ps:List Pap}:NeP p->NeP (.par b (p::ps))
mutual
theorem z7U {ws:List T3}:∀ {p:Pap} {s r:Int},yB ws s r p=true->NeP p
 | .inn k,_,_,_=>.inn
 | .par b ps,s,r,h=>by
  simp only [yB,u4a,decide_eq_true_eq] at h;exact z9q (fun e=>by rw[e] at h;simp at h;omega) h.2.2
theorem z9q {ws:List T3}:∀ {ps:List Pap} {s r b:Int} {c:Nat},ps≠[]->yM ws s r b c ps=true->NeP (.par b ps)
 | [],_,_,_,_,ne,_=>absurd rfl ne
 | p::ps,s,r,b,c,_,h=>by
  simp only [yM,u4a] at h;exact .par (z7U h.1)
end
noncomputable def y1q:List Nat:=z2f++[32]
theorem y1p:u3t "sure " = tx y1q:=by decide +kernel
noncomputable def z7J (K:u3q) (C:Addr):Sp:=fun vs H Q _=>∃(d pd p D:Addr) (n1 n2:List Nat) (n:Nat) (L:ky) (ws us:List T3),vs=[.ref d,.ref p,.ref D]/\Dsk C H d pd n L/\Lb H p n L/\n<=1000/\H D=some (.lst [.str (tx n1),.str (tx n2)])/\nmB n1=true/\nmB n2=true/\L (tx n1)=some ws/\L (tx n2)=some us/\Knd ws/\Knd us/\
 ∀(F:Addr) (v:V) (H':Hp),Same H H'->H F=none->H' F=some (.lst [.bl true,v])->(v=.non∨∃pp,PapIn K z3w H' v pp/\POk pp/\NeP pp/\pp.kn<=419/\pp.dep<=13)->Q (.ref F) H'
theorem z8q {C u0A u0f u0B u0E:Addr} (T:TF K mg "_law_sure" wM) (u0J:mg "list" = none) (u0I:mg "str" = none) (u0F:mg "isinstance" = none) (u0c:OX K mg "MeetError" u0B VE) (u0g:OX K mg "NoText" u0f (.ref u0B::VE)) (u0Z:Has P w K mg base 89 "_law_told" ["desk", "row"] (kS K C u0A)) (u2V:Has P w K mg base 6 "_law_lonely" ["one", "other"] (z1i K)) (u1L:HasX P w K mg base 87 "read_paper" ["text"] (z0F K)) (u0i:Has P w K mg base 21 "lets_meet" ["one", "other", "paper"] (yo K 16)) (u0S:Has P w K mg base 22 "paper_wait" ["one", "other", "paper"] (fun vs H Q _=>xi K u0E 16 vs H Q fun _ _ _=>False)) (u0L:Has P w K mg base 17 "shown_paper" ["paper"] (qP K 16)):Has P w K mg base 90 "_law_sure" ["desk", "plans", "names"] (z7J K C):=by
 refine T.has yA (fun _ _ _ _ _ _=>L2.bnd3 fun _ _ _=>rfl) (fun vs H Q E h=>?_) (fun f cdv A outer s H vs Q E hr h=>?_)
 ·refine pA fun Gc gB=>?_;obtain⟨d,pd,p,D,n1,n2,n,L,ws,us,rfl,_⟩:=h;refine gB ?_;rfl
 refine pA fun Gd gC=>?_;obtain⟨d,pd,p,D,n1,n2,n,L,ws,us,rfl,hk,hL,hn,hD,hn1,hn2,e1,e2,kw,ku,q⟩:=h;refine gC ?_;refine⟨_,(zC (yP (zQ (i:=3) yA.nd rfl (Or.inl rfl) (zS (u0Z.mono (by first|decide|omega)) hr (zB (pv 0) (zB (zN zX (zN zX (zN zX zM (zY za (pv 2) zG (fun _ _=>rfl))) zM) (zY za (pv 2) zG (fun _ _=>rfl))) zE))))) (zC (yP (zQ (i:=4) yA.nd rfl (Or.inl rfl) (zS (u2V.mono (by first|decide|omega)) hr (zB (xO (qH hr) (pv 1) (zY za (pv 2) zG (fun _ _=>rfl)) (fun _ _=>rfl)) (zB (xO (qH hr) (pv 1) (zY za (pv 2) zG (fun _ _=>rfl)) (fun _ _=>rfl)) zE))))) (zC (yP (zh (PW.pt (z0a (zR kF (pv 4) yI (zV _)) (vB (xb (yE (zf z3s rfl u0F (by decide +kernel) (zB (pv 3) (zB (z3D (v:=.ty "str") rfl u0I (by decide +kernel) rfl) zE))) (fun _=>rfl)))))) (zF (zL (yV (zB (yt (z7c hr.units) (pv 3) (pv 4) (zV _)) (zB yI zE))))) zP)) (zC (yP (y3a (xx u5D PySem.F.slot_str_partition PySem.F.type_str_partition vF (pv 3) (zB zM zE)) (vD rfl (zq (zd (i:=5) yA.nd rfl (Or.inl rfl)) (zq (zd (i:=6) yA.nd rfl (Or.inl rfl)) (zq (zd (i:=7) yA.nd rfl (Or.inl rfl)) jW)))))) (zC (yP (zh (PW.pt (z0a (zR z4k (xU z4N (pv 5) kE (xc zG)) zM (zV _)) (vB (zR yX (pv 6) zM (zV _))))) (zF (zL (yV (zB qe (zB yI zE))))) zP)) (zC (zQ (i:=8) yA.nd rfl (Or.inl rfl) yI) (zC (zQ (i:=9) yA.nd rfl (Or.inl rfl) yI) (zC (yP (z7X rfl rfl rfl (z2w (i:=9) yA.nd rfl (Or.inl rfl) (z2x rfl (u1L.mono (by first|decide|omega)) hr (zB (pv 7) zE))) (wT (i:=10) rfl yA.nd (fun _=>z7Y u0g u0c) (fun _=>(zF (zQ (i:=8) yA.nd rfl (Or.inl rfl) (pv 10)))) z7Z))) (zC (yP (zh (PW.pt (z0a (zR kF (pv 8) yI (zV _)) (vB (xb (yE (zS (u0i.mono (by first|decide|omega)) hr (zB (zZ zn rfl u0J (by decide +kernel) (zB (xO (qH hr) (pv 1) (zY za (pv 2) zG (fun _ _=>rfl)) (fun _ _=>rfl)) zE)) (zB (zZ zn rfl u0J (by decide +kernel) (zB (xO (qH hr) (pv 1) (zY za (pv 2) zG (fun _ _=>rfl)) (fun _ _=>rfl)) zE)) (zB (pv 9) zE)))) (fun _=>rfl)))))) (zF (zL (yV (zB qe (zB yI zE))))) zP)) (zC (yP (zQ (i:=11) yA.nd rfl (Or.inl rfl) (zS (u0S.mono (by first|decide|omega)) hr (zB (zZ zn rfl u0J (by decide +kernel) (zB (xO (qH hr) (pv 1) (zY za (pv 2) zG (fun _ _=>rfl)) (fun _ _=>rfl)) zE)) (zB (zZ zn rfl u0J (by decide +kernel) (zB (xO (qH hr) (pv 1) (zY za (pv 2) zG (fun _ _=>rfl)) (fun _ _=>rfl)) zE)) (zB (pv 9) zE)))))) (zF (zL (yV (zB (vE (yt yX (pv 5) (zN zX zM (zZ zx rfl u0I (by decide +kernel) (zB (pv 11) zE))) (zV _)) (z0e (yt yX (pv 7) (zS (u0L.mono (by first|decide|omega)) hr (zB (pv 9) zE)) (zV _)))) (zB (pv 9) zE))))))))))))))),?_⟩;walk_at "wpd";obtain⟨B,sm⟩:=kw.shr ku;have ln1:=jX hn1;have ln2:=jX hn2;have ls:y1q.length=5:=rfl;have eR:y1q++n1++[32]++n2=glu 32 [z2f,n1,n2]:=by simp [glu,y1q]
 have tok:TxOk (glu 32 [z2f,n1,n2]):=by
  refine⟨u5I (z3i (M:=8) fun x hx=>?_) (by show 3*9<=100000;decide),j3 (Pz:=fun x=>x<128) (by decide) fun x hx=>?_⟩
  ·simp only [u3w,u4B,or_false] at hx;rcases hx with rfl|rfl|rfl
   ·decide
   ·omega
   ·omega
  ·simp only [u3w,u4B,or_false] at hx;rcases hx with rfl|rfl|rfl
   ·decide
   ·exact ln1.2
   ·exact ln2.2
 refine⟨fun σ H'=>∃u,σ=[some (.ref d),some (.ref p),some (.ref D),some u,none,none,none,none,none,none,none,none]/\Same H H'/\((5000<rnS ws us/\∃t,u=.ref t/\H' t=some (.tup [.str (u3t "refused")]))∨(rnS ws us<=5000/\∃z,u=.str (tx z)/\y5J ws us z)),?_,?_⟩
 ·walk_at "wpd";refine zc (SqL.of hD) (ze (j:=0) rfl) ?_;rw[y1p,qZ];refine⟨_,_,rfl,rfl,by simp only [zU];omega,?_⟩;rw[zr];refine⟨_,_,rfl,rfl,by simp only [zU,u3s,u3x,u4G];omega,?_⟩;rw[zr];refine zc (SqL.of hD) (ze (j:=1) rfl) ⟨_,_,rfl,rfl,by simp only [zU,u3s,u3x,u4G];omega,?_⟩;rw[zr,eR];refine⟨d,pd,_,n,L,rfl,hk,hn,tok,.inr ⟨n1,n2,ws,us,z2f,[],e1,e2,y2B hn1 hn2,.inl ⟨rfl,rfl,B,sm,fun c x H1 g1 hx=>⟨x,rfl,rfl,hx,fun t H2 g2 ht=>?_⟩,fun c z H1 g1 hz=>⟨_,rfl,?_⟩⟩⟩⟩
  ·exact⟨_,rfl,g1.trans g2,.inl ⟨c,t,rfl,ht⟩⟩
  ·exact⟨_,rfl,g1,.inr ⟨c,z,rfl,hz⟩⟩
 rintro σ H1 ⟨u,rfl,g1,hu⟩;walk_at "wpd";refine⟨fun σ H'=>∃v,σ=[some (.ref d),some (.ref p),some (.ref D),some u,some v,none,none,none,none,none,none,none]/\Same H1 H'/\((5000<rnS ws us/\∃t,v=.ref t/\H' t=some (.tup [.str (u3t "refused")]))∨(rnS ws us<=5000/\((xP (shs ws us) (rnS ws us).toNat=none/\v=.non)∨∃i,xP (shs ws us) (rnS ws us).toNat=some i/\v=.str (tx (y3f++dg i))))),?_,?_⟩
 ·walk_at "wpd";have hD1:=g1 _ _ hD;refine pA fun Ge gE=>?_;obtain⟨F,xs,d1,f1,p1⟩:=(hL.same g1).get e1;refine gE ?_;refine pA fun Gf gG=>?_;obtain⟨F2,ys,d2,f2,p2⟩:=(hL.same g1).get e2;refine gG ?_;refine zc (SqL.of hD1) (ze (j:=0) rfl) ⟨p,_,rfl,d1,zc (SqL.of hD1) (ze (j:=1) rfl) ⟨p,_,rfl,d2,F,F2,xs,ys,ws,us,rfl,f1,p1,f2,p2,kw.1,ku.1,fun c t H2 g2 ht=>?_,fun c H2 g2=>⟨fun e=>?_,fun i e _=>?_⟩⟩⟩
  ·exact⟨_,rfl,g2,.inl ⟨c,t,rfl,ht⟩⟩
  ·exact⟨_,rfl,g2,.inr ⟨c,.inl ⟨e,rfl⟩⟩⟩
  ·exact⟨_,rfl,g2,.inr ⟨c,.inr ⟨i,e,rfl⟩⟩⟩
 rintro σ H2 ⟨v,rfl,g2,hv⟩;walk_at "wpd";have G2:=g1.trans g2;have n2:suL.length=12:=by decide +kernel
 have n3:bbL.length=4:=by decide +kernel
 refine⟨fun σ H'=>∃pp M,σ=[some (.ref d),some (.ref p),some (.ref D),some (.str (tx (suL++dg M++bbL++ptx pp))),some .non,none,none,none,none,none,none,none]/\H'=H2/\yB (shs ws us) 1 0 pp=true/\IsMx (prd ws us) pp.nm M/\DgOk M/\POk pp/\pp.kn<=419/\pp.dep<=13,?_,?_⟩
 ·walk_at "wpd";rcases hv with⟨c,t,rfl,ht⟩|⟨c,hv⟩
  ·rcases hu with⟨_,t0,rfl,ht0⟩|⟨c2,_⟩
   ·exact⟨fun _=>y4w (by unfold Asc;decide +kernel) (g2 _ _ ht0) ht fun F nF=>q F _ _ (G2.trans (zJ nF _)) (G2.free nF) zH (.inl rfl),fun c=>absurd (fun z=>nomatch z) c⟩
   ·omega
  ·rcases hu with⟨c2,_⟩|⟨_,z,rfl,hz⟩
   ·omega
   rcases hv with⟨e,rfl⟩|⟨i,e,rfl⟩
   ·refine⟨fun c=>absurd rfl c,fun _=>⟨_,_,_,true,rfl,.str _,rfl,_,rfl,(fun c=>nomatch c),fun _=>?_⟩⟩;rcases hz with⟨i,e2,_⟩|⟨_,pp,M,h1,h2,h3,h4,h5,h6,rfl⟩
    ·rw[e] at e2;cases e2
    ·exact⟨pp,M,rfl,rfl,h1,h2,h3,h4,h5,h6⟩
   ·refine⟨fun _=>?_,fun c=>absurd (fun z=>nomatch z) c⟩;rcases hz with⟨j,e2,dj,rfl⟩|⟨e2,_⟩
    ·rw[e] at e2;cases e2;refine z3m ?_ fun F nF=>q F _ _ (G2.trans (zJ nF _)) (G2.free nF) zH (.inl rfl);refine z8H.mpr fun x hx=>?_;rcases u4H.mp hx with hx|hx
     ·exact (show ∀z∈y3f,z<128 by decide +kernel) x hx
     ·have:=dj.all x hx;omega
    ·rw[e] at e2;cases e2
 rintro σ H3 ⟨pp,M,rfl,rfl,rt,hM,dM,ok,kp,dp⟩;have l1:=dM.len;have l2:=qC pp ok;have b98:98∉suL++dg M:=fun z=>by
  rcases u4H.mp z with z|z
  ·exact absurd z (by decide +kernel)
  ·have:=dM.all 98 z;omega
 walk_at "wpd";refine⟨fun σ H'=>σ=[some (.ref d),some (.ref p),some (.ref D),some (.str (tx (suL++dg M++bbL++ptx pp))),some .non,some (.str (tx (suL++dg M))),some (.str (tx bbL)),some (.str (tx (ptx pp))),none,none,none,none]/\Same H3 H',?_,?_⟩
 ·walk_at "wpd";rw[show u3t " by " = tx bbL from (yn _).symm];refine⟨rfl,_,_,rfl,rfl,by rw[zU,n3];rfl,by rw[zU];simp only [u3s];omega,fun F nF=>?_⟩;rw[y4Y b98];refine⟨F,_,rfl,SqT.of zH,rfl,?_⟩;walk_at "wpd";exact zJ nF _
 rintro σ H4 ⟨rfl,g4⟩;have G4:=G2.trans g4;walk_at "wpd";refine⟨fun σ H'=>σ=[some (.ref d),some (.ref p),some (.ref D),some (.str (tx (suL++dg M++bbL++ptx pp))),some .non,some (.str (tx (suL++dg M))),some (.str (tx bbL)),some (.str (tx (ptx pp))),none,none,none,none]/\H'=H4,?_,?_⟩
 ·walk_at "wpd";refine⟨_,rfl,by rw[zU,u4Q];simp only [u3s];omega,?_⟩;rw[show u6e (tx (suL++dg M)) none (some 12)=tx suL from (z9f _ 12).trans (by rw[←n2,u6V]),show u3t "sure within " = tx suL from (yn _).symm,show u3t "" = tx [] by decide +kernel];exact neT ⟨_,rfl,(fun c=>by simp at c),fun _=>eqT ⟨_,rfl,fun c=>by
   have:=congrArg List.length (of_decide_eq_true c);rw[n3] at this;exact absurd this (by decide),fun _=>rfl⟩⟩
 rintro σ H5 ⟨rfl,rfl⟩;walk_at "wpd";refine⟨fun σ H'=>∃v,σ=[some (.ref d),some (.ref p),some (.ref D),some (.str (tx (suL++dg M++bbL++ptx pp))),some .non,some (.str (tx (suL++dg M))),some (.str (tx bbL)),some (.str (tx (ptx pp))),some .non,some v,none,none]/\Same H5 H'/\PapIn K z3w H' v pp,?_,?_⟩
 ·unfold y5U;walk_at "wpd";exact⟨pp,rfl,ok,by omega,by omega,fun v H6 g6 hv=>⟨v,rfl,g6,hv.any⟩⟩
 rintro σ H6 ⟨v,rfl,g6,hv⟩;have G6:=G4.trans g6;walk_at "wpd";refine⟨fun σ H'=>σ=[some (.ref d),some (.ref p),some (.ref D),some (.str (tx (suL++dg M++bbL++ptx pp))),some .non,some (.str (tx (suL++dg M))),some (.str (tx bbL)),some (.str (tx (ptx pp))),some .non,some v,none,none]/\Same H6 H',?_,?_⟩
 ·walk_at "wpd";refine y3w (R:=fun x y H'=>yo K 16 [x,y,v] H' _ _) (G6 _ _ hD) (hL.same G6) e1 e2 fun a b xs ys H' g ha hP hb hP2=>?_;have lw:=kw.1.2.1;have lu:=ku.1.2.1;refine⟨a,b,v,xs,ys,ws,us,pp,rfl,SqL.of ha,hP,SqL.of hb,hP2,kw.1.1.1,ku.1.1.1,by omega,by omega,hv.mono g,by omega,fun H'' g2=>⟨_,rfl,fun c=>?_,fun _=>g.trans g2⟩⟩;rw[rt] at c;cases c
 rintro σ H7 ⟨rfl,g7⟩;have G7:=G6.trans g7;walk_at "wpd";refine⟨fun σ H'=>σ=[some (.ref d),some (.ref p),some (.ref D),some (.str (tx (suL++dg M++bbL++ptx pp))),some .non,some (.str (tx (suL++dg M))),some (.str (tx bbL)),some (.str (tx (ptx pp))),some .non,some v,none,some (.int M)]/\Same H7 H',?_,?_⟩
 ·walk_at "wpd";refine y3w (R:=fun x y H'=>xi K u0E 16 [x,y,v] H' _ _) (G7 _ _ hD) (hL.same G7) e1 e2 fun a b xs ys H' g ha hP hb hP2=>?_;refine⟨a,b,v,xs,ys,ws,us,pp,rfl,SqL.of ha,hP,SqL.of hb,hP2,kw.1.big,ku.1.big,kw.1.2.1,ku.1.2.1,hv.mono (g7.trans g),by omega,by omega,fun _ M' H'' g2 hM'=>?_,fun c=>by rw[rt] at c;cases c⟩;rw[hM'.uniq hM];exact⟨rfl,g.trans g2⟩
 rintro σ H8 ⟨rfl,g8⟩;have G8:=G7.trans g8;have hv8:=hv.mono (g7.trans g8);walk_at "wpd";refine⟨M,rfl,dM.sz,?_⟩;rw[show u3t "sure within " = tx suL from (yn _).symm,ym];refine⟨_,_,rfl,rfl,by rw[zU,zU];omega,?_⟩;rw[zr];refine eqT ⟨_,rfl,(fun _=>⟨v,pp,rfl,hv8,ok,by omega,by omega,fun H9 g9=>eqT fun F nF=>?_⟩),fun c=>absurd (decide_eq_true rfl) c⟩;have g10:=g9.trans (zJ nF (.lst [V.bl (decide (ptx pp=ptx pp)),v]));exact q F v _ (G8.trans g10) ((G8.trans g9).free nF) (by rw[decide_eq_true rfl];exact zH) (.inr ⟨pp,hv8.mono g10,ok,z7U rt,kp,dp⟩)
noncomputable def z7N (K:u3q) (d:Nat):Sp:=fun vs H Q _=>∃(v:V) (k:Int) (p:Pap),vs=[v,.int k]/\PapIn K z3w H v p/\p.dep<d/\POk p/\NeP p/\p.kn<=1000/\DgOk k/\∀v' p' H',Same H H'->PapIn K z3w H' v' p'->p'.dep=p.dep->POk p'->p'.kn=p.kn->Q v' H'
theorem z1D (T:TF K mg "_law_exchanged" x9):∀d:Nat,Has P w K mg base (d+1) "_law_exchanged" ["paper", "k"] (z7N K d):=by
 intro d
 induction d with
 | zero=>
  refine T.has j6 (fun _ _ _ _ _ _=>L2.bnd2 fun _ _=>rfl) (fun vs H Q E h=>?_) (fun f cdv A outer s H vs Q E hr h=>?_)
  ·refine pA fun Gg gH=>?_;obtain⟨_,_,_,_,_,h1,_⟩:=h;refine gH ?_;omega
  ·refine pA fun Gh gI=>?_;obtain⟨_,_,_,_,_,h1,_⟩:=h;refine gI ?_;omega
 | succ d ih=>
 have u0q:=ih;refine T.has j6 (fun _ _ _ _ _ _=>L2.bnd2 fun _ _=>rfl) (fun vs H Q E h=>?_) (fun f cdv A outer s H vs Q E hr h=>?_)
 ·refine pA fun Gi gJ=>?_;obtain⟨v,k,p,rfl,_⟩:=h;refine gJ ?_;rfl
 refine pA fun Gj gK=>?_;obtain⟨v,k,p,rfl,hv,dp,ok,ne,kp,dk,q⟩:=h;refine gK ?_;refine⟨_,(zC (zh (zR yX (zY zg (pv 0) zG (fun _ _=>rfl)) zM (zV _)) (zF (zL (yF (zB zM (zB (pv 1) zE))))) zP) (zF (zL (yF (zB (zY zg (pv 0) zG (fun _ _=>rfl)) (zB (zY zg (pv 0) zG (fun _ _=>rfl)) (zB (zN y6B (yV (zB (zS (u0q.mono (by first|decide|omega)) hr (zB (zY za (zY zg (pv 0) zG (fun _ _=>rfl)) zG (fun _ _=>rfl)) (zB (pv 1) zE))) zE)) (xU z5w (zY zg (pv 0) zG (fun _ _=>rfl)) (xc zG) kE)) zE))))))),?_⟩;cases hv with
 | @inn b0 j hb=>
  have hT:SqT K H b0 [.str "in",.int j]:=SqT.of hb;walk_at "wpd";refine⟨_,_,_,.str "in",rfl,rfl,hT,rfl,rfl,_,rfl,fun _ p np=>?_,fun c=>absurd (decide_eq_true rfl) c⟩;refine q (.ref p) (.inn k) _ (zJ np _) (.inn zH) rfl (fun m hm=>?_) rfl;simp only [y0G,u3w,u4B,or_false] at hm;rw[hm];exact dk
 | @par b0 l bb zs ps hb hl nl lz2 hs=>
  have hT:SqT K H b0 [.str "parted",.int bb,.ref l]:=SqT.of hb;simp only [Pap.dep] at dp;obtain⟨okb,oks⟩:=ok.par;simp only [Pap.kn] at kp;cases ne with
  | @par _ p0 ps ne0=>
  cases hs with
  | @cons z0 zs _ _ h0 hs=>
  walk_at "wpd";have lz:=hs.len;have kl:=Pap.kns_len ps;simp only [Pap.kns] at kp;simp only [Pap.deps] at dp;have hdv:atI (z0::zs) 0=some z0:=ze (j:=0) rfl;refine⟨_,_,_,.str "parted",rfl,rfl,hT,rfl,rfl,_,rfl,fun c=>absurd (of_decide_eq_true c) (by decide +kernel),fun _=>?_⟩;refine⟨_,_,_,.str "parted",rfl,rfl,hT,rfl,_,_,_,.int bb,rfl,rfl,hT,rfl,_,_,_,.ref l,rfl,rfl,hT,rfl,zc (SqL.of hl) hdv ?_⟩;refine⟨z0,k,p0,rfl,h0,by omega,oks.cons.1,ne0,by omega,dk,fun v' p' H1 g1 hv' d1 ok1 kn1 D nD=>?_⟩;have g2:=zJ nD (.lst [v']);have hD:=zH (H:=H1) (a:=D) (o:=.lst [v']);generalize upd H1 D (.lst [v'])=H2 at g2 hD ⊢;have G2:=g1.trans g2;refine⟨_,_,_,.ref l,rfl,rfl,Same.seqT G2 hT,rfl,l,_,rfl,SqL.of (G2 _ _ hl),fun D2 nD2=>?_⟩;rw[show (some (1:Int))=some ((1:Nat):Int) from rfl,y1I,List.drop_succ_cons,List.drop_zero];have g3:=zJ nD2 (.lst zs);have hD2:=zH (H:=H2) (a:=D2) (o:=.lst zs);generalize upd H2 D2 (.lst zs)=H3 at g3 hD2 ⊢;refine⟨D,D2,_,_,rfl,rfl,g3 _ _ hD,hD2,by rw[u4Q,u6G];omega,fun D3 nD3 F nF=>?_⟩;have g4:=zJ nD3 (.lst ([v']++zs));have hD3:=zH (H:=H3) (a:=D3) (o:=.lst ([v']++zs));generalize upd H3 D3 (.lst ([v']++zs))=H4 at g4 hD3 nF ⊢;have g5:=zJ nF (.tup [V.str (u3t "parted"),.int bb,.ref D3]);have G5:=(g2.trans g3).trans (g4.trans g5);refine q (.ref F) (.par bb (p'::ps)) _ (g1.trans G5) (.par zH (g5 _ _ hD3) trivial (by simp;omega) (.cons (hv'.mono G5) (hs.mono (g1.trans G5)))) ?_ (fun m hm=>?_) ?_
  ·simp only [Pap.dep,Pap.deps,d1]
  ·simp only [y0G,z4m,u3w,u4H] at hm;rcases hm with rfl|hm|hm
   ·exact okb
   ·exact ok1 m hm
   ·exact oks.cons.2 m hm
  ·simp only [Pap.kn,Pap.kns,kn1]
noncomputable def z4J (K:u3q):Sp:=fun vs H Q _=>∃(n:Int) (v:V) (p:Pap),vs=[.int n,v]/\PapIn K z3w H v p/\p.dep<=13/\POk p/\NeP p/\p.kn<=419/\∀v' p' H',Same H H'->PapIn K z3w H' v' p'->p'.dep<=14->POk p'->p'.kn<=500->Q v' H'
theorem z6X (T:TF K mg "_law_asked" qy) (u0q:Has P w K mg base 15 "_law_exchanged" ["paper", "k"] (z7N K 14)):Has P w K mg base 16 "_law_asked" ["number", "paper"] (z4J K):=by
 refine T.has z4U (fun _ _ _ _ _ _=>L2.bnd2 fun _ _=>rfl) (fun vs H Q E h=>?_) (fun f cdv A outer s H vs Q E hr h=>?_)
 ·refine pA fun Gk gL=>?_;obtain⟨n,v,p,rfl,_⟩:=h;refine gL ?_;rfl
 refine pA fun Gm gM=>?_;obtain⟨n,v,p,rfl,hv,dp,ok,ne,kp,q⟩:=h;refine gM ?_;refine⟨_,(zC (zh (zR yX (zN zi (pv 0) zG) zG (zV _)) (zF (zL (pv 1))) zP) (zC (zh (zR yX (zN zi (pv 0) zG) zG (zV _)) (zF (zL (zS (u0q.mono (by first|decide|omega)) hr (zB (pv 1) (zB (zN zi (zN zk (pv 0) zG) zG) zE))))) zP) (zC (zh (zR yX (zN zi (pv 0) zG) zG (zV _)) (zF (zL (yF (zB zM (zB (zN zi (zN zk (pv 0) zG) zG) zE))))) zP) (zF (zL (yF (zB zM (zB zG (zB (yV (zB (yF (zB zM (zB (zN zi (zN zk (pv 0) zG) zG) zE))) (zB (pv 1) zE))) zE))))))))),?_⟩;walk_at "wpd";have b10:=z4p (n/4) (show (0:Int)<10 by decide);have dk:DgOk (n/4%10):=z8y b10.1 (Int.lt_trans b10.2 (by decide +kernel));have dv:z9I n 4:=z7x 10 (by decide) (by decide) (by decide);have ink:POk (.inn (n/4%10)):=fun m hm=>by
  simp only [y0G,u3w,u4B,or_false] at hm;rw[hm];exact dk
 generalize n/4%10=k at dk ink;refine⟨by decide,fun _=>q v p H (Same.refl _) hv (by omega) ok (by omega),fun _=>⟨by decide,fun _=>⟨dv,by decide,v,k,p,rfl,hv,by omega,ok,ne,by omega,dk,fun v' p' H' g h d o kn=>q v' p' H' g h (by omega) o (by omega)⟩,fun _=>⟨by decide,fun _=>⟨dv,by decide,fun F nF=>q (.ref F) (.inn k) _ (zJ nF _) (.inn zH) (by simp [Pap.dep]) ink (by simp [Pap.kn])⟩,fun _=>⟨dv,by decide,fun F nF F2 nF2 F3 nF3=>?_⟩⟩⟩⟩;have g1:=zJ nF (.tup [V.str (u3t "in"),V.int k]);have h1:=zH (H:=H) (a:=F) (o:=.tup [V.str (u3t "in"),V.int k]);generalize upd H F (.tup [V.str (u3t "in"),V.int k])=H1 at g1 h1 nF2 nF3 ⊢;have g2:=zJ nF2 (.lst [V.ref F,v]);have h2:=zH (H:=H1) (a:=F2) (o:=.lst [V.ref F,v]);generalize upd H1 F2 (.lst [V.ref F,v])=H2 at g2 h2 nF3 ⊢;have g3:=zJ nF3 (.tup [V.str (u3t "parted"),V.int 2,V.ref F2]);have G:=g2.trans g3;refine q (.ref F3) (.par 2 [.inn k,p]) _ (g1.trans G) (.par zH (g3 _ _ h2) trivial (by show 2<2^60;decide) (.cons (.inn (G _ _ h1)) (.cons (hv.mono (g1.trans G)) .nil))) (by simp only [Pap.dep,Pap.deps];omega) (fun m hm=>?_) (by simp only [Pap.kn,Pap.kns];omega);simp only [y0G,z4m,u3w,u4H,u4B,or_false] at hm;rcases hm with rfl|hm|hm
 ·exact z8y (by decide) (by decide +kernel)
 ·rw[hm];exact dk
 ·exact ok m hm
theorem y5R {H:Hp} {F F2:Addr} {xs ys:List V} {ws us:List T3} {R:V->V->Hp->Prop} (f1:H F=some (.lst xs)) (p1:Pl H xs ws) (f2:H F2=some (.lst ys)) (p2:Pl H ys us)
  (q:∀l1 l2 H',Same H H'->H' l1=some (.lst xs)->Pl H' xs ws->H' l2=some (.lst ys)->Pl H' ys us->R (.ref l1) (.ref l2) H') :
  ∃p ys,[V.ref F]=[V.ref p]/\(SqL K H p ys∨SqT K H p ys)/\∀l,H l=none->∃p ys_1,[V.ref F2]=[V.ref p]/\(SqL K (upd H l (.lst ys)) p ys_1∨SqT K (upd H l (.lst ys)) p ys_1)/\∀l2,upd H l (.lst ys) l2=none->R (.ref l) (.ref l2) (upd (upd H l (.lst ys)) l2 (.lst ys_1)):=by
 refine⟨F,xs,rfl,.inl (SqL.of f1),fun l nl=>?_⟩;have g1:=zJ nl (.lst xs);have h1:=zH (H:=H) (a:=l) (o:=.lst xs);generalize upd H l (.lst xs)=H1 at g1 h1 ⊢;refine⟨F2,ys,rfl,.inl (SqL.of (g1 _ _ f2)),fun l2 nl2=>?_⟩;have g2:=zJ nl2 (.lst ys);exact q l l2 _ (g1.trans g2) (g2 _ _ h1) ((p1.same g1).same g2) zH ((p2.same g1).same g2)
noncomputable def z8B:List Nat:=qm++[32]
theorem y1Q:u3t "check " = tx z8B:=by decide +kernel
theorem ChkA.uniq {ws us:List T3} {p:Pap} {k l:List Nat} (h:ChkA ws us p k) (g:ChkA ws us p l):k=l:=by
 rcases h with⟨c,M,hM,_,rfl⟩|⟨c,rfl⟩
 ·rcases g with⟨_,N,hN,_,rfl⟩|⟨c2,_⟩
  ·rw[hM.uniq hN]
  ·rw[c] at c2;cases c2
 ·rcases g with⟨c2,_⟩|⟨_,rfl⟩
  ·rw[c] at c2;cases c2
  ·rfl
noncomputable def z4I (K:u3q) (C:Addr):Sp:=fun vs H Q _=>∃(d pd p D:Addr) (n1 n2:List Nat) (n:Nat) (L:ky) (ws us:List T3) (v:V) (pp:Pap),vs=[.ref d,.ref p,.ref D,v]/\Dsk C H d pd n L/\Lb H p n L/\n<=1000/\H D=some (.lst [.str (tx n1),.str (tx n2)])/\nmB n1=true/\nmB n2=true/\L (tx n1)=some ws/\L (tx n2)=some us/\Knd ws/\Knd us/\PapIn K z3w H v pp/\POk pp/\pp.kn<=500/\pp.dep<=14/\∀H',Same H H'->Q (.bl true) H'
theorem z6W {C u0A u0E:Addr} (T:TF K mg "_law_check" qw) (u0J:mg "list" = none) (u0I:mg "str" = none) (u0Z:Has P w K mg base 89 "_law_told" ["desk", "row"] (kS K C u0A)) (u0i:Has P w K mg base 21 "lets_meet" ["one", "other", "paper"] (yo K 16)) (u0S:Has P w K mg base 22 "paper_wait" ["one", "other", "paper"] (fun vs H Q _=>xi K u0E 16 vs H Q fun _ _ _=>False)) (u0L:Has P w K mg base 17 "shown_paper" ["paper"] (qP K 16)):Has P w K mg base 90 "_law_check" ["desk", "plans", "names", "paper"] (z4I K C):=by
 refine T.has xG (fun _ _ _ _ _ _=>L2.bnd4 fun _ _ _ _=>rfl) (fun vs H Q E h=>?_) (fun f cdv A outer s H vs Q E hr h=>?_)
 ·refine pA fun Gn gN=>?_;obtain⟨d,pd,p,D,n1,n2,n,L,ws,us,v,pp,rfl,_⟩:=h;refine gN ?_;rfl
 refine pA fun Go gO=>?_;obtain⟨d,pd,p,D,n1,n2,n,L,ws,us,v,pp,rfl,hk,hL,hn,hD,hn1,hn2,e1,e2,kw,ku,hv,ok,kp,dp,q⟩:=h;refine gO ?_;refine⟨_,(zC (zQ (i:=4) xG.nd rfl (Or.inl rfl) (xO (qH hr) (pv 1) (zY za (pv 2) zG (fun _ _=>rfl)) (fun _ _=>rfl))) (zC (zQ (i:=5) xG.nd rfl (Or.inl rfl) (xO (qH hr) (pv 1) (zY za (pv 2) zG (fun _ _=>rfl)) (fun _ _=>rfl))) (zC (zQ (i:=6) xG.nd rfl (Or.inl rfl) zM) (zC (yP (zh (yE (zS (u0i.mono (by first|decide|omega)) hr (zB (zZ zn rfl u0J (by decide +kernel) (zB (pv 4) zE)) (zB (zZ zn rfl u0J (by decide +kernel) (zB (pv 5) zE)) (zB (pv 3) zE)))) (fun _=>rfl)) (zF (zQ (i:=6) xG.nd rfl (Or.inl rfl) (zN zX zM (zZ zx rfl u0I (by decide +kernel) (zB (zS (u0S.mono (by first|decide|omega)) hr (zB (zZ zn rfl u0J (by decide +kernel) (zB (pv 4) zE)) (zB (zZ zn rfl u0J (by decide +kernel) (zB (pv 5) zE)) (zB (pv 3) zE)))) zE))))) zP)) (zF (zL (yt (z7c hr.units) (zS (u0Z.mono (by first|decide|omega)) hr (zB (pv 0) (zB (zN zX (zN zX (zN zX (zN zX (zN zX zM (zY za (pv 2) zG (fun _ _=>rfl))) zM) (zY za (pv 2) zG (fun _ _=>rfl))) zM) (zS (u0L.mono (by first|decide|omega)) hr (zB (pv 3) zE))) zE))) (pv 6) (zV _)))))))),?_⟩;walk_at "wpd";refine pA fun Gp gP=>?_;obtain⟨F,xs,d1,f1,p1⟩:=hL.get e1;refine gP ?_;refine pA fun Gq gQ=>?_;obtain⟨F2,ys,d2,f2,p2⟩:=hL.get e2;refine gQ ?_;have lw:=kw.1.2.1;have lu:=ku.1.2.1;refine zc (SqL.of hD) (ze (j:=0) rfl) ⟨p,_,rfl,d1,zc (SqL.of hD) (ze (j:=1) rfl) ⟨p,_,rfl,d2,?_⟩⟩;refine⟨fun σ H'=>∃z,σ=[some (.ref d),some (.ref p),some (.ref D),some v,some (.ref F),some (.ref F2),some (.str (tx z))]/\Same H H'/\ChkA ws us pp z,?_,?_⟩
 ·walk_at "wpd";refine y5R (R:=fun x y H'=>yo K 16 [x,y,v] H' _ _) f1 p1 f2 p2 fun a b H' g ha hP hb hP2=>?_;refine⟨a,b,v,xs,ys,ws,us,pp,rfl,SqL.of ha,hP,SqL.of hb,hP2,kw.1.1.1,ku.1.1.1,by omega,by omega,hv.mono g,by omega,fun H1 g2=>⟨_,rfl,fun c=>?_,fun c=>?_⟩⟩
  ·have G:=g.trans g2;refine y5R (R:=fun x y H'=>xi K u0E 16 [x,y,v] H' _ _) (G _ _ f1) (p1.same G) (G _ _ f2) (p2.same G) fun a b H2 g3 ha hP hb hP2=>?_;refine⟨a,b,v,xs,ys,ws,us,pp,rfl,SqL.of ha,hP,SqL.of hb,hP2,kw.1.big,ku.1.big,lw,lu,hv.mono (G.trans g3),by omega,by omega,fun _ M H3 g4 hM=>?_,fun c2=>by rw[c] at c2;cases c2⟩;have dM:=(kw.1.wait ku.1 hM).2;have l1:=dM.len;have n1:rwL.length=13:=by decide +kernel
   refine⟨M,rfl,dM.sz,?_⟩;rw[show u3t "right within " = tx rwL from (yn _).symm,ym];refine⟨_,_,rfl,rfl,by rw[zU,zU];omega,?_⟩;rw[zr];exact⟨_,rfl,G.trans (g3.trans g4),.inl ⟨c,M,hM,dM,rfl⟩⟩
  ·refine⟨y5O,?_,g.trans g2,.inr ⟨by simpa using c,rfl⟩⟩;rw[show tx y5O=u3t "wrong" from yn _]
 rintro σ H1 ⟨z,rfl,g1,hz⟩;walk_at "wpd";have ln1:=jX hn1;have ln2:=jX hn2;have lc:z8B.length=6:=rfl;have l2:=qC pp ok;have eR:z8B++n1++[32]++n2++[32]++ptx pp=glu 32 [qm,n1,n2,ptx pp]:=by simp [glu,z8B]
 have tok:TxOk (glu 32 [qm,n1,n2,ptx pp]):=by
  refine⟨?_,j3 (Pz:=fun x=>x<128) (by decide) fun x hx=>?_⟩
  ·rw[←eR];simp only [u3s,u3x,u4G];omega
  ·simp only [u3w,u4B,or_false] at hx;rcases hx with rfl|rfl|rfl|rfl
   ·decide
   ·exact ln1.2
   ·exact ln2.2
   ·exact z0c pp ok
 have hD1:=g1 _ _ hD;rw[y1Q,qZ];refine zc (SqL.of hD1) (ze (j:=0) rfl) ⟨_,_,rfl,rfl,by simp only [zU];omega,?_⟩;rw[zr];refine⟨_,_,rfl,rfl,by simp only [zU,u3s,u3x,u4G];omega,?_⟩;rw[zr];refine zc (SqL.of hD1) (ze (j:=1) rfl) ⟨_,_,rfl,rfl,by simp only [zU,u3s,u3x,u4G];omega,?_⟩;rw[zr];refine⟨_,_,rfl,rfl,by simp only [zU,u3s,u3x,u4G];omega,?_⟩;rw[zr];refine⟨v,pp,rfl,hv.mono g1,ok,by omega,by omega,fun H2 g2=>⟨_,_,rfl,rfl,by simp only [zU,u3s,u3x,u4G];omega,?_⟩⟩;rw[zr,eR];have G2:=g1.trans g2;refine⟨d,pd,_,n,L,rfl,hk.same G2,hn,tok,.inr ⟨n1,n2,ws,us,qm,[ptx pp],e1,e2,z9p hn1 hn2,.inr (.inl ⟨rfl,pp,rfl,ok,by omega,by omega,kw.1,ku.1,fun y H3 g3 hy=>⟨_,rfl,?_⟩⟩)⟩⟩;obtain rfl:=hy.uniq hz;refine z3m ?_ (q H3 (G2.trans g3));refine z8H.mpr fun x hx=>?_;rcases hy with⟨_,M,_,dM,rfl⟩|⟨_,rfl⟩
 ·rcases u4H.mp hx with hx|hx
  ·exact (show ∀z∈rwL,z<128 by decide +kernel) x hx
  ·have:=dM.all x hx;omega
 ·exact (show ∀z∈y5O,z<128 by decide +kernel) x hx
theorem y5G (n:Int):Asc (u3t (toString n)):=by
 have pos:∀m:Int,0<=m->∀x∈dg m,x<128:=fun m hm x hx=>by
  refine pA fun Gr gR=>?_;obtain⟨l,e,a,_⟩:=z7f hm;refine gR ?_;have el:dg m=l:=by
   unfold dg;rw[e,zj]
  have:=a x (el▸hx);omega
 rw[ym];refine z8H.mpr fun x hx=>?_;rcases Int.lt_or_le n 0 with c|c
 ·rw[y3m c] at hx;rcases u3w.mp hx with rfl|hx
  ·decide
  ·exact pos (-n) (by omega) x hx
 ·exact pos n c x hx
theorem y5H (r:Option Int):Asc (y6a r):=by
 cases r with
 | none=>show Asc (u3t "never");unfold Asc;decide +kernel
 | some n=>exact y5G n
noncomputable def y2h:List Nat:=z3J++[32]
theorem y2g:u3t "meet " = tx y2h:=by decide +kernel
noncomputable def z7L (K:u3q) (C:Addr):Sp:=fun vs H Q _=>∃(d pd p D:Addr) (n1 n2:List Nat) (n:Nat) (L:ky) (ws us:List T3) (num:Int),vs=[.ref d,.ref p,.ref D,.int num]/\Dsk C H d pd n L/\Lb H p n L/\n<=1000/\H D=some (.lst [.str (tx n1),.str (tx n2)])/\nmB n1=true/\nmB n2=true/\L (tx n1)=some ws/\L (tx n2)=some us/\Knd ws/\Knd us/\∀H',Same H H'->Q (.bl true) H'
theorem z8s {C u0A:Addr} (T:TF K mg "_law_meet" wO) (u0J:mg "list" = none) (u0I:mg "str" = none) (u0Z:Has P w K mg base 89 "_law_told" ["desk", "row"] (kS K C u0A)) (u0o:Has P w K mg base 5 "next_together" ["one", "other", "shift", "turn"] (jG K)):Has P w K mg base 90 "_law_meet" ["desk", "plans", "names", "number"] (z7L K C):=by
 refine T.has yj (fun _ _ _ _ _ _=>L2.bnd4 fun _ _ _ _=>rfl) (fun vs H Q E h=>?_) (fun f cdv A outer s H vs Q E hr h=>?_)
 ·refine pA fun Gs gU=>?_;obtain⟨d,pd,p,D,n1,n2,n,L,ws,us,num,rfl,_⟩:=h;refine gU ?_;rfl
 refine pA fun Gu gW=>?_;obtain⟨d,pd,p,D,n1,n2,n,L,ws,us,num,rfl,hk,hL,hn,hD,hn1,hn2,e1,e2,kw,ku,q⟩:=h;refine gW ?_;refine⟨_,(zC (zQ (i:=4) yj.nd rfl (Or.inl rfl) (zN xl (zN zi (pv 3) zG) zG)) (zC (zQ (i:=5) yj.nd rfl (Or.inl rfl) (zN zi (zN zk (pv 3) zG) (zN y0C zG zG))) (zC (yP (zQ (i:=6) yj.nd rfl (Or.inl rfl) (zS (u0o.mono (by first|decide|omega)) hr (zB (zZ zn rfl u0J (by decide +kernel) (zB (xO (qH hr) (pv 1) (zY za (pv 2) zG (fun _ _=>rfl)) (fun _ _=>rfl)) zE)) (zB (zZ zn rfl u0J (by decide +kernel) (zB (xO (qH hr) (pv 1) (zY za (pv 2) zG (fun _ _=>rfl)) (fun _ _=>rfl)) zE)) (zB (pv 4) (zB (pv 5) zE))))))) (zC (zQ (i:=7) yj.nd rfl (Or.inl rfl) zM) (zC (yP (zh (zR kF (pv 6) yI (zV _)) (zF (zQ (i:=7) yj.nd rfl (Or.inl rfl) (zZ zx rfl u0I (by decide +kernel) (zB (pv 6) zE)))) zP)) (zC (zQ (i:=8) yj.nd rfl (Or.inl rfl) (zN zX (zN zX (zN zX (zN zX (zN zX (zN zX (zN zX zM (zY za (pv 2) zG (fun _ _=>rfl))) zM) (zY za (pv 2) zG (fun _ _=>rfl))) zM) (zZ zx rfl u0I (by decide +kernel) (zB (pv 4) zE))) zM) (zZ zx rfl u0I (by decide +kernel) (zB (pv 5) zE)))) (zF (zL (yt (z7c hr.units) (zS (u0Z.mono (by first|decide|omega)) hr (zB (pv 0) (zB (pv 8) zE))) (pv 7) (zV _)))))))))),?_⟩;walk_at "wpd";have b2:=z4p num (show (0:Int)<201 by decide);have b3:=z4p (num/201) (show (0:Int)<10^30 by decide);have e30:(10:Int)^Int.toNat 30=10^30:=rfl;refine⟨by decide,z7x 10 (by decide) (by decide) (by decide),⟨by decide,by decide,by decide⟩,by decide,?_⟩;rw[e30];generalize hsh:num%201-100=sh;generalize num/201%10^30=t at b3 ⊢;have t60:(10:Int)^30<=10^60:=by decide
 have e100:(10:Int)^60<10^100:=by decide +kernel
 have sg1:=y5k (n:=sh) (by omega) (by omega);have sg2:=y5k (n:=t) (by omega) (by omega);have kt1:=y6F (n:=sh) (by omega) (by omega);have kt2:=y6F (n:=t) (by omega) (by omega);have kp:=kw.1.1;have kp2:=ku.1.1;refine⟨fun σ H'=>∃r,σ=[some (.ref d),some (.ref p),some (.ref D),some (.int num),some (.int sh),some (.int t),some (oV r),none,none]/\Same H H'/\NextOf (z5o ws us sh) t r,?_,?_⟩
 ·walk_at "wpd";refine y3w (R:=fun x y H'=>jG K [x,y,.int sh,.int t] H' _ _) hD hL e1 e2 fun a b xs ys H' g ha hP hb hP2=>?_;exact⟨a,b,xs,ys,ws,us,sh,t,rfl,SqL.of ha,hP,SqL.of hb,hP2,kp.1,kp2.1,kp.2.1,kp2.2.1,by have:=kp.2.2;omega,by have:=kp2.2.2;omega,fun r H1 g1 hr=>⟨r,rfl,g.trans g1,hr⟩⟩
 rintro σ H1 ⟨r,rfl,g1,hr⟩;walk_at "wpd";refine⟨fun σ H'=>σ=[some (.ref d),some (.ref p),some (.ref D),some (.int num),some (.int sh),some (.int t),some (oV r),some (.str (y6a r)),none]/\H'=H1,?_,?_⟩
 ·walk_at "wpd";cases r with
  | none=>exact⟨fun c=>absurd rfl c,fun _=>rfl⟩
  | some x=>exact⟨fun _=>⟨x,rfl,z6n kp kp2 kt2.2.2 hr,rfl⟩,fun c=>absurd (fun z=>nomatch z) c⟩
 rintro σ H2 ⟨rfl,rfl⟩;walk_at "wpd";have ln1:=jX hn1;have ln2:=jX hn2;have ld1:=sg1.len;have ld2:=sg2.len;have lm:y2h.length=5:=rfl;have eR:y2h++n1++[32]++n2++[32]++dg sh++[32]++dg t=glu 32 [z3J,n1,n2,dg sh,dg t]:=by simp [glu,y2h]
 have tok:TxOk (glu 32 [z3J,n1,n2,dg sh,dg t]):=by
  refine⟨?_,j3 (Pz:=fun x=>x<128) (by decide) fun x hx=>?_⟩
  ·rw[←eR];simp only [u3s,u3x,u4G];omega
  ·simp only [u3w,u4B,or_false] at hx;rcases hx with rfl|rfl|rfl|rfl|rfl
   ·decide
   ·exact ln1.2
   ·exact ln2.2
   ·exact kU sg1
   ·exact kU sg2
 have hD1:=g1 _ _ hD;rw[y2g,qZ];refine zc (SqL.of hD1) (ze (j:=0) rfl) ⟨_,_,rfl,rfl,by simp only [zU];omega,?_⟩;rw[zr];refine⟨_,_,rfl,rfl,by simp only [zU,u3s,u3x,u4G];omega,?_⟩;rw[zr];refine zc (SqL.of hD1) (ze (j:=1) rfl) ⟨_,_,rfl,rfl,by simp only [zU,u3s,u3x,u4G];omega,?_⟩;rw[zr];refine⟨_,_,rfl,rfl,by simp only [zU,u3s,u3x,u4G];omega,sh,rfl,sg1.sz,?_⟩;rw[zr,ym];refine⟨_,_,rfl,rfl,by simp only [zU,u3s,u3x,u4G];omega,?_⟩;rw[zr];refine⟨_,_,rfl,rfl,by simp only [zU,u3s,u3x,u4G];omega,t,rfl,sg2.sz,?_⟩;rw[zr,ym];refine⟨_,_,rfl,rfl,by simp only [zU,u3s,u3x,u4G];omega,?_⟩;rw[zr,eR];refine⟨d,pd,_,n,L,rfl,hk.same g1,hn,tok,.inr ⟨n1,n2,ws,us,z3J,[dg sh,dg t],e1,e2,y2E hn1 hn2 sg1 sg2,.inr (.inr ⟨rfl,dg sh,dg t,sh,t,rfl,kt1,kt2,fun r' H3 g3 hr'=>⟨_,rfl,?_⟩⟩)⟩⟩;obtain rfl:=hr'.uniq (fun _ _=>Iff.rfl) hr;exact z3m (y5H _) (q H3 (g1.trans g3))
theorem Lb.put {H:Hp} {C d pd p F:Addr} {n:Nat} {L:ky} {z:Str} {xs:List V} {ws:List T3} (h:Lb H p n L) (hk:Dsk C H d pd n L) (npd:pd≠p) (hn:n<=1000) (kp:KpP ws) (hF:H F=some (.lst xs)) (hP:Pl H xs ws) :
  ∃H',DPut H p (.str z) (.ref F) H'/\(∀b o,b≠p->H b=some o->H' b=some o)/\Lb H' p (n+1) (z5l L z ws)/\Dsk C H' d pd n L:=by
 refine pA fun Gv gX=>?_;obtain⟨kvs,hp,hl,hb⟩:=h;refine gX ?_;have off:∀b o,b≠p->H b=some o->upd H p (.dK (z5m kvs (.inr z) (.ref F))) b=some o:=fun b o hb e=>by rw[zb hb];exact e
 have lk:=jY kvs (Sum.inr z) (.ref F);refine⟨upd H p (.dK (z5m kvs (.inr z) (.ref F))),DPut.k (k:=.inr z) hp (by rw[u4Q];omega),off,⟨_,zH,by omega,(hb.put kp hF hP).by (fun b ys e=>off b _ (xV e hp (by intro z;cases z)) e) fun b ys e=>off b _ (xV e hp (by intro z;cases z)) e⟩,?_⟩;refine pA fun Gw gZ=>?_;obtain⟨⟨dx,hd⟩,kv2,hp2,hl2,hb2⟩:=hk;refine gZ ?_;exact⟨⟨dx,off _ _ (xV hd hp (by intro z;cases z)) hd⟩,kv2,off _ _ npd hp2,hl2,hb2.by (fun b ys e=>off b _ (xV e hp (by intro z;cases z)) e) fun b ys e=>off b _ (xV e hp (by intro z;cases z)) e⟩
theorem y0D {a:Int} (h:1<=a):Wk (a,0,1):=⟨h,show (0:Int)<=0 by decide,show 0<a by omega,show (1:Int)<=1 by decide,h⟩
theorem y0T {u v:T3} {D:Int} (wu:Wk u) (wv:Wk v) (u1:u.1<=100) (v1:v.1<=100) (d1:1<=D) (d2:D<=210) (hu:u.1∣D) (hv:v.1∣D):Knd [u,v]:=by
 have e1:(100:Int)<2^900:=by decide +kernel
 have all:∀ {p:T3->Prop},p u->p v->∀x∈[u,v],p x:=fun {p} h1 h2 x hx=>by
  simp only [u3w,u4B,or_false] at hx;rcases hx with rfl|rfl
  ·exact h1
  ·exact h2
 exact⟨⟨⟨all wu wv,all (by omega) (by omega),by show 2<=12;decide⟩,by show 2<=7;decide,all (by omega) (by omega)⟩,.inl ⟨D,d1,d2,all hu hv⟩⟩
noncomputable def Pm (a:Int):Prop:=a=2∨a=3∨a=5∨a=7
theorem Pm.ok {a:Int} (h:Pm a):IsPart a a/\SgOk a/\2<=a/\a<=7:=by
 have r:2<=a/\a<=7:=by unfold Pm at h;omega
 have e:(7:Int)<10^100:=by decide +kernel
 refine⟨?_,y5k (by omega) (by omega),r⟩;rcases h with rfl|rfl|rfl|rfl
 ·exact xE (n:=2) (f:=0) (by decide) (by decide) (by decide)
 ·exact xE (n:=3) (f:=0) (by decide) (by decide) (by decide)
 ·exact xE (n:=5) (f:=1) (by decide) (by decide) (by decide)
 ·exact xE (n:=7) (f:=1) (by decide) (by decide) (by decide)
noncomputable def PRM:List V:=[V.int 2,V.int 3,V.int 5,V.int 7]
theorem y4N:∀ {i j:Nat},i<4->j<3->∃a b:Int,seqIndex? (i:Int) PRM.length=some i/\PRM[i]?=some (.int a)/\atI (PRM.eraseIdx i) (j:Int)=some (.int b)/\a≠b/\Pm a/\Pm b:=fun {i j} hi hj=>by
 have h1:i=0∨i=1∨i=2∨i=3:=by omega
 have h2:j=0∨j=1∨j=2:=by omega
 unfold Pm;rcases h1 with rfl|rfl|rfl|rfl <;> rcases h2 with rfl|rfl|rfl <;> exact⟨_,_,rfl,rfl,rfl,by decide,by decide,by decide⟩
theorem KdP.wok {ws:List T3} (h:KdP ws):∀u∈ws,WOk u/\isW u=true:=fun u hu=>by
 refine pA fun Gx fA=>?_;obtain⟨a1,a2,a3,a4,a5⟩:=h.1.1 u hu;refine fA ?_;have b:=h.2.2 u hu;have e:(10:Int)^31<10^100:=by decide +kernel
 refine⟨⟨z8y (by omega) (by omega),z8y a2 (by omega),z8y (by omega) (by omega)⟩,?_⟩;unfold isW;exact decide_eq_true ⟨a1,⟨a2,a3⟩,a4,a5⟩
theorem z6E {ws:List T3} (h:∀u∈ws,WOk u):∀x∈j7 ws true,x<128:=by
 unfold j7;split
 ·decide +kernel
 ·refine j3 (by decide) fun p hp x hx=>?_;refine pA fun Gy fB=>?_;obtain⟨u,hu,rfl⟩:=u4l.mp hp;refine fB ?_;refine pA fun Gz fE=>?_;obtain⟨a,b,c⟩:=h u hu;refine fE ?_;refine j3 (Pz:=fun x=>x<128) (by decide) (fun p hp x hx=>?_) x hx;have d:∀ {n:Int},DgOk n->∀x∈dg n,x<128:=fun h x hx=>by have:=h.all x hx;omega
  unfold xh at hp;split at hp
  ·simp only [u3w,u4B,or_false] at hp;rcases hp with rfl|rfl
   ·exact d a x hx
   ·exact d b x hx
  ·simp only [u3w,u4B,or_false] at hp;rcases hp with rfl|rfl|rfl
   ·exact d a x hx
   ·exact d b x hx
   ·exact d c x hx
noncomputable def y2O:List Nat:=z6F++[32]
theorem y2N:u3t "plan " = tx y2O:=by decide +kernel
theorem y2W:u3t "pair " = tx (z3E++[32]):=by decide +kernel
theorem y2y:u3t "grid " = tx (z5N++[32]):=by decide +kernel
noncomputable def z7M (K:u3q) (C:Addr):Sp:=fun vs H Q _=>∃(d pd p:Addr) (nm:List Nat) (c num:Int) (n:Nat) (L:ky),vs=[.ref d,.ref p,.str (tx nm),.int c,.int num]/\Dsk C H d pd n L/\Lb H p n L/\pd≠p/\n<=900/\nmB nm=true/\u4d c<=2^20/\∀H' ws,(∀b o,b≠pd->b≠p->H b=some o->H' b=some o)->Knd ws->Dsk C H' d pd (n+1) (z5l L (tx nm) ws)->Lb H' p (n+1) (z5l L (tx nm) ws)->Q (.bl true) H'
theorem z8t {C u0A:Addr} (T:TF K mg "_law_kept" wP) (u0I:mg "str" = none) (u0Z:Has P w K mg base 89 "_law_told" ["desk", "row"] (kS K C u0A)) (u3J:Has P w K mg base 2 "_law_plan" ["cell"] z7K) (u2W:Has P w K mg base 2 "shown_plan" ["plan"] (kN K)):Has P w K mg base 90 "_law_kept" ["desk", "plans", "name", "cell", "number"] (z7M K C):=by
 refine T.has yZ (fun _ _ _ _ _ _=>L2.bnd5 fun _ _ _ _ _=>rfl) (fun vs H Q E h=>?_) (fun f cdv A outer s H vs Q E hr h=>?_)
 ·refine pA fun Ga hU=>?_;obtain⟨d,pd,p,nm,c,num,n,L,rfl,_⟩:=h;refine hU ?_;rfl
 refine pA fun Gb hV=>?_;obtain⟨d,pd,p,nm,c,num,n,L,rfl,hk,hL,npd,hn,hnm,hc,q⟩:=h;refine hV ?_;refine⟨_,(zC (yP (zh (zR yX (zN zi (pv 4) zG) zG (zV _)) (zC (z3A (qH hr) (pv 1) (pv 2) (zS (u3J.mono (by first|decide|omega)) hr (zB (pv 3) zE)) rfl) (zF (zQ (i:=5) yZ.nd rfl (Or.inl rfl) (zN zX (zN zX (zN zX zM (pv 2)) zM) (zS (u2W.mono (by first|decide|omega)) hr (zB (xO (qH hr) (pv 1) (pv 2) (fun _ _=>rfl)) zE)))))) (zF (zh (zR yX (zN zi (pv 4) zG) zG (zV _)) (zC (zQ (i:=6) yZ.nd rfl (Or.inl rfl) (yV (zB zG (zB zG (zB zG (zB zG zE)))))) (zC (zQ (i:=7) yZ.nd rfl (Or.inl rfl) (xx u4v PySem.F.slot_list_pop PySem.F.type_list_pop y2d (pv 6) (zB (zN zi (zN zk (pv 4) zG) zG) zE))) (zC (zQ (i:=8) yZ.nd rfl (Or.inl rfl) (zY za (pv 6) (zN zi (zN zk (pv 4) zG) zG) (fun _ _=>rfl))) (zC (z3A (qH hr) (pv 1) (pv 2) (yV (zB (yF (zB (pv 7) (zB zG (zB zG zE)))) (zB (yF (zB (pv 8) (zB zG (zB zG zE)))) zE))) rfl) (zF (zQ (i:=5) yZ.nd rfl (Or.inl rfl) (zN zX (zN zX (zN zX (zN zX (zN zX zM (pv 2)) zM) (zZ zx rfl u0I (by decide +kernel) (zB (pv 7) zE))) zM) (zZ zx rfl u0I (by decide +kernel) (zB (pv 8) zE))))))))) (zC (zQ (i:=9) yZ.nd rfl (Or.inl rfl) (zN xI zG (zN zi (zN zk (pv 4) zG) zG))) (zC (z3A (qH hr) (pv 1) (pv 2) (yV (zB (yF (zB (pv 9) (zB zG (zB zG zE)))) (zB (yF (zB (zN xy (pv 9) (pv 9)) (zB zG (zB (pv 9) zE)))) zE))) rfl) (zF (zQ (i:=5) yZ.nd rfl (Or.inl rfl) (zN zX (zN zX (zN zX zM (pv 2)) zM) (zZ zx rfl u0I (by decide +kernel) (zB (pv 9) zE))))))))))) (zF (zL (yt (z7c hr.units) (zS (u0Z.mono (by first|decide|omega)) hr (zB (pv 0) (zB (pv 5) zE))) zM (zV _))))),?_⟩;walk_at "wpd";refine⟨fun σ H'=>∃h rs ws o6 o7 o8 o9,σ=[some (.ref d),some (.ref p),some (.str (tx nm)),some (.int c),some (.int num),some (.str (tx (glu 32 (h::nm::rs)))),o6,o7,o8,o9]/\(∀b o,b≠p->H b=some o->H' b=some o)/\Dsk C H' d pd n L/\Lb H' p (n+1) (z5l L (tx nm) ws)/\PRow h rs ws/\Knd ws/\qd (glu 32 (h::nm::rs))=some (h::nm::rs)/\TxOk (glu 32 (h::nm::rs)),?_,?_⟩
 ·walk_at "wpd";have ln:=jX hnm;have l4:y2O.length=5:=rfl;refine⟨by decide,fun _=>⟨c,rfl,hc,fun F xs ws H1 g1 nF hF hP kd=>?_⟩,fun _=>⟨by decide,fun _ p1 np1=>?_,fun _=>?_⟩⟩
  ·refine pA fun Gc gB=>?_;obtain⟨H2,dp,of2,hL2,hk2⟩:=(hL.same g1).put (z:=tx nm) (hk.same g1) npd (by omega) kd.1.1 hF hP;refine gB ?_;refine⟨p,H2,rfl,dp,?_⟩;rw[y2N,qZ];refine⟨_,_,rfl,rfl,by simp only [zU];omega,?_⟩;rw[zr];refine⟨_,_,rfl,rfl,by simp only [zU,u3s,u3x,u4G];omega,?_⟩;rw[zr];obtain⟨F2,ys,dg,hF2,hP2⟩:=hL2.get (z:=tx nm) (ws:=ws) (by unfold z5l;rw[if_pos rfl]);have wok:=kd.1.wok;have l12:ws.length<=12:=kd.1.1.2.2;have pl:=z4d (fun u hu=>(wok u hu).1) l12 true;refine⟨p,_,rfl,dg,F2,ys,ws,rfl,SqL.of hF2,hP2,l12,fun u hu=>(wok u hu).1,fun H3 g3=>⟨_,_,rfl,rfl,by simp only [zU,u3s,u3x,u4G];omega,?_⟩⟩;have eP:y2O++nm++[32]++j7 ws true=glu 32 [z6F,nm,j7 ws true]:=by simp [glu,y2O]
   rw[zr,eP];refine⟨z6F,[j7 ws true],ws,_,_,_,_,rfl,fun b o hb e=>g3 _ _ (of2 b o hb (g1 _ _ e)),hk2.same g3,hL2.same g3,.plan l12 (fun u hu=>(wok u hu).1) fun u hu=>(wok u hu).2,kd,y2C hnm,?_,?_⟩
   ·rw[←eP];simp only [u3s,u3x,u4G];omega
   ·refine j3 (Pz:=fun x=>x<128) (by decide) fun x hx=>?_;simp only [u3w,u4B,or_false] at hx;rcases hx with rfl|rfl|rfl
    ·decide
    ·exact ln.2
    ·exact z6E fun u hu=>(wok u hu).1
  ·have b4:=z4p (num/3) (show (0:Int)<4 by decide);have b3:=z4p (num/12) (show (0:Int)<3 by decide);obtain⟨i,hi⟩:∃i:Nat,num/3%4=(i:Int):=⟨_,(u6h b4.1).symm⟩
   obtain⟨j,hj⟩:∃j:Nat,num/12%3=(j:Int):=⟨_,(u6h b3.1).symm⟩
   rw[hi] at b4 ⊢;rw[hj] at b3 ⊢;refine pA fun Gd gC=>?_;obtain⟨a,b,k1,k2,k3,nab,pa,pb⟩:=y4N (i:=i) (j:=j) (by omega) (by omega);refine gC ?_;have oa:=pa.ok;have ob:=pb.ok;have g1:=(zJ np1 (.lst [V.int 2,V.int 3,V.int 5,V.int 7])).write np1 (.lst (PRM.eraseIdx i));refine⟨.inl ⟨rfl,_,SqL.of zH⟩,z7x 10 (by decide) (by decide) (by decide),by decide,p1,PRM,i,i,.int a,rfl,rfl,zH,by omega,by omega,k1,k2,z7x 10 (by decide) (by decide) (by decide),by decide,zc (SqL.of zH) k3 fun p2 np2 p3 np3 p4 np4=>?_⟩;generalize upd (upd H p1 (.lst [V.int 2,V.int 3,V.int 5,V.int 7])) p1 (.lst (PRM.eraseIdx i))=H1 at g1 np2 np3 np4 ⊢;have f1:=zJ np2 (wA (a,0,1));have f2:=zJ np3 (wA (b,0,1));have f3:=zJ np4 (.lst [.ref p2,.ref p3]);have G:=g1.trans ((f1.trans f2).trans f3);have m:=Int.mul_le_mul oa.2.2.2 ob.2.2.2 (by omega) (by decide);have m0:0<a*b:=Int.mul_pos (by omega) (by omega);have kd:Knd [(a,0,1),(b,0,1)]:=y0T (D:=a*b) (y0D (by omega)) (y0D (by omega)) (by show a<=100;omega) (by show b<=100;omega) (by omega) (by omega) (Int.dvd_mul_right _ _) (Int.dvd_mul_left _ _);refine pA fun Ge gE=>?_;obtain⟨H5,dp,of5,hL5,hk5⟩:=(hL.same G).put (z:=tx nm) (F:=p4) (xs:=[.ref p2,.ref p3]) (ws:=[(a,0,1),(b,0,1)]) (hk.same G) npd (by omega) kd.1.1 zH ((Pl.one (f3 _ _ (f2 _ _ zH))).snoc (f3 _ _ zH));refine gE ?_;refine⟨p,H5,rfl,dp,?_⟩;have la:=oa.2.1.len;have lb:=ob.2.1.len;have lp:(z3E++[32]).length=5:=rfl;have eP:z3E++[32]++nm++[32]++dg a++[32]++dg b=glu 32 [z3E,nm,dg a,dg b]:=by simp [glu]
   rw[y2W,qZ];refine⟨_,_,rfl,rfl,by rw[zU,zU,lp];omega,?_⟩;rw[zr];refine⟨_,_,rfl,rfl,by simp only [zU,u3s,u3x,u4G] at lp ⊢;omega,a,rfl,oa.2.1.sz,?_⟩;rw[zr,ym];refine⟨_,_,rfl,rfl,by simp only [zU,u3s,u3x,u4G] at lp ⊢;omega,?_⟩;rw[zr];refine⟨_,_,rfl,rfl,by simp only [zU,u3s,u3x,u4G] at lp ⊢;omega,b,rfl,ob.2.1.sz,?_⟩;rw[zr,ym];refine⟨_,_,rfl,rfl,by simp only [zU,u3s,u3x,u4G] at lp ⊢;omega,?_⟩;rw[zr,eP];refine⟨z3E,[dg a,dg b],_,_,_,_,_,rfl,fun x o hb e=>of5 x o hb (G _ _ e),hk5,hL5,.pair oa.1 ob.1 nab oa.2.1 ob.2.1 (by omega) (by omega),kd,y2D hnm (by omega) (by omega) (by omega) (by omega) oa.2.1,?_,?_⟩
   ·rw[←eP];simp only [u3s,u3x,u4G] at lp ⊢;omega
   ·refine j3 (Pz:=fun x=>x<128) (by decide) fun x hx=>?_;simp only [u3w,u4B,or_false] at hx;rcases hx with rfl|rfl|rfl|rfl
    ·decide
    ·exact ln.2
    ·exact kU oa.2.1
    ·exact kU ob.2.1
  ·have b4:=z4p (num/3) (show (0:Int)<4 by decide);generalize hs:1+num/3%4=side;have s14:1<=side/\side<=4:=by omega
   refine⟨z7x 10 (by decide) (by decide) (by decide),by decide,fun p2 np2=>⟨mok 10 10 (by omega) (by omega) (by decide),fun p3 np3 p4 np4=>?_⟩⟩;have f1:=zJ np2 (wA (side,0,1));have f2:=zJ np3 (wA (side*side,0,side));have f3:=zJ np4 (.lst [.ref p2,.ref p3]);have G:=(f1.trans f2).trans f3;have m:=Int.mul_le_mul s14.2 s14.2 (by omega) (by decide);have m1:=u4E s14.1 (show 0<=side by omega);rw[Int.mul_one] at m1;have e100:(4:Int)<10^100:=by decide +kernel
   have sg:=y5k (n:=side) (by omega) (by omega);have kd:Knd [(side,0,1),(side*side,0,side)]:=y0T (D:=side*side) (y0D s14.1) ⟨by show 1<=side*side;omega,by show (0:Int)<=0;omega,by show 0<side*side;omega,s14.1,m1⟩ (by show side<=100;omega) (by show side*side<=100;omega) (by omega) (by omega) (Int.dvd_mul_right _ _) (Int.dvd_refl _);refine pA fun Gf gG=>?_;obtain⟨H5,dp,of5,hL5,hk5⟩:=(hL.same G).put (z:=tx nm) (F:=p4) (xs:=[.ref p2,.ref p3]) (ws:=[(side,0,1),(side*side,0,side)]) (hk.same G) npd (by omega) kd.1.1 zH ((Pl.one (f3 _ _ (f2 _ _ zH))).snoc (f3 _ _ zH));refine gG ?_;refine⟨p,H5,rfl,dp,?_⟩;have la:=sg.len;have lp:(z5N++[32]).length=5:=rfl;have eP:z5N++[32]++nm++[32]++dg side=glu 32 [z5N,nm,dg side]:=by simp [glu]
   rw[y2y,qZ];refine⟨_,_,rfl,rfl,by rw[zU,zU,lp];omega,?_⟩;rw[zr];refine⟨_,_,rfl,rfl,by simp only [zU,u3s,u3x,u4G] at lp ⊢;omega,side,rfl,sg.sz,?_⟩;rw[zr,ym];refine⟨_,_,rfl,rfl,by simp only [zU,u3s,u3x,u4G] at lp ⊢;omega,?_⟩;rw[zr,eP];have e400:(4:Int)<2^400:=by decide +kernel
   refine⟨z5N,[dg side],_,_,_,_,_,rfl,fun x o hb e=>of5 x o hb (G _ _ e),hk5,hL5,.grid s14.1 (by omega) sg,kd,y2F hnm (by omega) (by omega),?_,?_⟩
   ·rw[←eP];simp only [u3s,u3x,u4G] at lp ⊢;omega
   ·refine j3 (Pz:=fun x=>x<128) (by decide) fun x hx=>?_;simp only [u3w,u4B,or_false] at hx;rcases hx with rfl|rfl|rfl
    ·decide
    ·exact ln.2
    ·exact kU sg
 rintro σ H1 ⟨h,rs,ws,o6,o7,o8,o9,rfl,of1,hk1,hL1,pr,kd,er,tok⟩;walk_at "wpd";refine⟨d,pd,_,n,L,rfl,hk1,by omega,tok,.inl ⟨h,nm,rs,ws,er,pr,kd.1.1,fun H2 of2 dk2=>⟨_,rfl,z3m (by unfold Asc;decide +kernel) (q H2 ws (fun b o hb hp e=>of2 b o hb (of1 b o hp e)) kd dk2 ?_)⟩⟩⟩;refine pA fun Gg gH=>?_;obtain⟨kvs,hp,hl,hb⟩:=hL1;refine gH ?_;refine pA fun Gh gI=>?_;obtain⟨_,kv2,hpd,_,_⟩:=hk1;refine gI ?_;exact⟨kvs,of2 _ _ (Ne.symm npd) hp,hl,hb.by (fun b ys e=>of2 _ _ (xV e hpd (by intro z;cases z)) e) fun b ys e=>of2 _ _ (xV e hpd (by intro z;cases z)) e⟩
structure Std (K:u3q) (C:Addr) (H:Hp) (d pd p NL a:Addr) (n:Nat) (L:ky) (nms:List (List Nat)) (ns:List Int):Prop where
 k:Dsk C H d pd n L
 b:Lb H p n L
 nl:H NL=some (.lst ((nms.map tx).map V.str))
 sq:SqL K H a (ns.map V.int)
 kd:∀z ws,L z=some ws->Knd ws
theorem Std.same {C:Addr} {H H':Hp} {d pd p NL a:Addr} {n:Nat} {L:ky} {nms:List (List Nat)} {ns:List Int} (h:Std K C H d pd p NL a n L nms ns) (g:Same H H'):Std K C H' d pd p NL a n L nms ns:=⟨h.k.same g,h.b.same g,g _ _ h.nl,g.seq h.sq,h.kd⟩
theorem Std.up {C:Addr} {H:Hp} {d pd p NL a:Addr} {n:Nat} {L:ky} {nms:List (List Nat)} {ns:List Int} (h:Std K C H d pd p NL a n L nms ns):Std K C H d pd p NL a (n+1) L nms ns:=by
 refine pA fun Gi gJ=>?_;obtain⟨⟨x,kvs,y,z,w⟩,⟨kv2,y2,z2,w2⟩,h1,h2,h3⟩:=h;refine gJ ?_;exact⟨⟨x,kvs,y,by omega,w⟩,⟨kv2,y2,by omega,w2⟩,h1,h2,h3⟩
theorem Std.off {C:Addr} {H H':Hp} {d pd p NL a:Addr} {n:Nat} {L:ky} {nms:List (List Nat)} {ns:List Int} (h:Std K C H d pd p NL a n L nms ns) (g:∀b o,b≠pd->b≠p->H b=some o->H' b=some o):(∀b xs,H b=some (.lst xs)->H' b=some (.lst xs))/\∀b xs,H b=some (.tup xs)->H' b=some (.tup xs):=by
 refine pA fun Gj gK=>?_;obtain⟨⟨_,kv1,h1,_,_⟩,⟨kv2,h2,_,_⟩,_⟩:=h;refine gK ?_;exact⟨fun b xs e=>g _ _ (xV e h1 (by intro z;cases z)) (xV e h2 (by intro z;cases z)) e,fun b xs e=>g _ _ (xV e h1 (by intro z;cases z)) (xV e h2 (by intro z;cases z)) e⟩
theorem y5h {H H':Hp} {c a b:Addr} {xs:List V} {ka kb:List (Key×V)} (h:SqL K H c xs) (ha:H a=some (.dK ka)) (hb:H b=some (.dK kb)) (g:∀x o,x≠a->x≠b->H x=some o->H' x=some o):SqL K H' c xs:=by
 rcases h with (h|⟨o,h⟩)|h
 ·exact .inl (.inl (g _ _ (xV h ha (by intro z;cases z)) (xV h hb (by intro z;cases z)) h))
 ·exact .inl (.inr ⟨o,g _ _ (xV h ha (by intro z;cases z)) (xV h hb (by intro z;cases z)) h⟩)
 ·exact .inr h
theorem Std.kept {C:Addr} {H H':Hp} {d pd p NL a:Addr} {n:Nat} {L:ky} {nms:List (List Nat)} {ns:List Int} {nm:List Nat} {ws:List T3} (h:Std K C H d pd p NL a n L nms ns) (g:∀b o,b≠pd->b≠p->H b=some o->H' b=some o) (kd:Knd ws) (hk:Dsk C H' d pd (n+1) (z5l L (tx nm) ws)) (hb:Lb H' p (n+1) (z5l L (tx nm) ws)):Std K C H' d pd p NL a (n+1) (z5l L (tx nm) ws) nms ns:=by
 refine pA fun Gk gL=>?_;obtain⟨⟨_,kv1,h1,_,_⟩,⟨kv2,h2,_,_⟩,h3,h4,h5⟩:=h;refine gL ?_;refine⟨hk,hb,g _ _ (xV h3 h1 (by intro z;cases z)) (xV h3 h2 (by intro z;cases z)) h3,y5h h4 h1 h2 g,fun z us e=>?_⟩;unfold z5l at e;split at e
 ·cases e;exact kd
 ·exact h5 z us e
noncomputable def Told (K:u3q) (H:Hp) (v:V):Prop:=∃pp,PapIn K z3w H v pp/\POk pp/\NeP pp/\pp.kn<=419/\pp.dep<=13
theorem Told.same {H H':Hp} {v:V} (h:Told K H v) (g:Same H H'):Told K H' v:=by
 refine pA fun Gm gM=>?_;obtain⟨pp,h1,h2⟩:=h;refine gM ?_;exact⟨pp,h1.mono g,h2⟩
theorem Told.by {H H':Hp} {v:V} (h:Told K H v) (g:(∀b xs,H b=some (.lst xs)->H' b=some (.lst xs))/\∀b xs,H b=some (.tup xs)->H' b=some (.tup xs)):Told K H' v:=by
 refine pA fun Gn gN=>?_;obtain⟨pp,h1,h2⟩:=h;refine gN ?_;exact⟨pp,z7b g.2 (fun b xs _ e=>g.1 b xs e) h1,h2⟩
theorem z9k {L:ky} {z:Str} {ws:List T3}:(z5l L z ws z).isSome=true:=by
 unfold z5l;rw[if_pos rfl];rfl
theorem z4Q {L:ky} {z y:Str} {ws:List T3} (h:(L y).isSome=true):(z5l L z ws y).isSome=true:=by
 unfold z5l;split
 ·rfl
 ·exact h
theorem y6x {C:Addr} (u0b:Cls K C) (u1w:u6d K C=true) (u1x:u5L K (.ref C)=true) (u1y:mg "Desk" = some (.ref C)) (T:TF K mg "law" y4J) (u0D:mg "len" = none) (u0O:mg "range" = none) (u1k:HasM P w K mg base 1 C "__init__" ["self"] (z7O C)) (u1X:Has P w K mg base 1 "_law_cell_at" ["script", "k"] (z1m K)) (u1B:Has P w K mg base 1 "_law_big" ["cell"] z7Q) (u2o:Has P w K mg base 2 "_law_names" ["cell"] z4H) (u1l:Has P w K mg base 90 "_law_kept" ["desk", "plans", "name", "cell", "number"] (z7M K C)) (u3K:Has P w K mg base 90 "_law_sure" ["desk", "plans", "names"] (z7J K C)) (u2p:Has P w K mg base 90 "_law_check" ["desk", "plans", "names", "paper"] (z4I K C)) (u2q:Has P w K mg base 16 "_law_asked" ["number", "paper"] (z4J K)) (u3L:Has P w K mg base 90 "_law_meet" ["desk", "plans", "names", "number"] (z7L K C)) (u0L:Has P w K mg base 17 "shown_paper" ["paper"] (qP K 16)):Has P w K mg base 91 "law" ["script"] (sp_law K):=by
 refine T.has xQ (fun _ _ _ _ _ _=>L2.bnd1 fun _=>rfl) (fun vs H Q E h=>?_) (fun f cdv A outer s H vs Q E hr h=>?_)
 ·refine pA fun Go gO=>?_;obtain⟨a,ns,rfl,_⟩:=h;refine gO ?_;rfl
 refine pA fun Gp gP=>?_;obtain⟨a,ns,rfl,hS,h63,hbits,q⟩:=h;refine gP ?_;refine⟨_,(zC (zQ (i:=1) xQ.nd rfl (Or.inl rfl) (y5y (u1k.mono (by first|decide|omega)) u1w u1x hr rfl u1y)) (zC (zQ (i:=2) xQ.nd rfl (Or.inl rfl) (zS (u2o.mono (by first|decide|omega)) hr (zB (zS (u1X.mono (by first|decide|omega)) hr (zB (pv 0) (zB zG zE))) zE))) (zC (zQ (i:=3) xQ.nd rfl (Or.inl rfl) z7a) (zC (yP (xR u4p rfl (kZ rfl u0O (zB zG zE)) (zd (i:=4) xQ.nd rfl (Or.inl rfl)) (zF (zh (xb (yE (zS (u1l.mono (by first|decide|omega)) hr (zB (pv 1) (zB (pv 3) (zB (zY za (pv 2) (pv 4) (fun _ _=>rfl)) (zB (zS (u1X.mono (by first|decide|omega)) hr (zB (pv 0) (zB (pv 4) zE))) (zB zG zE)))))) (fun _=>rfl))) (zF (zL qe)) zP)))) (zC (zQ (i:=5) xQ.nd rfl (Or.inl rfl) (yF (zB zM (zB zG zE)))) (zC (yP (xR u4p rfl (yQ (zN y4a (xU z5w (pv 0) (xc zG) (xc zG)) (yV (zB zG zE)))) (zd (i:=6) xQ.nd rfl (Or.inl rfl)) (zC (zQ (i:=7) xQ.nd rfl (Or.inl rfl) (zS (u1B.mono (by first|decide|omega)) hr (zB (zN xI (pv 6) zG) zE))) (zC (zQ (i:=8) xQ.nd rfl (Or.inl rfl) (yV (zB (zY za (pv 2) (zN zi (pv 7) zG) (fun _ _=>rfl)) (zB (zY za (pv 2) (zN zi (zN zk (pv 7) zG) zG) (fun _ _=>rfl)) zE)))) (zC (zQ (i:=9) xQ.nd rfl (Or.inl rfl) qe) (zC (yP (zh (zR wV (zN zi (zN zk (pv 7) zG) zG) zG (zV _)) (zF (zQ (i:=9) xQ.nd rfl (Or.inl rfl) (zS (u1l.mono (by first|decide|omega)) hr (zB (pv 1) (zB (pv 3) (zB (zY za (pv 8) zG (fun _ _=>rfl)) (zB (pv 6) (zB (zN zk (pv 7) zG) zE)))))))) (zF (zh (zR wV (zN zi (zN zk (pv 7) zG) zG) zG (zV _)) (zC (y3a (zS (u3K.mono (by first|decide|omega)) hr (zB (pv 1) (zB (pv 3) (zB (pv 8) zE)))) (y5w rfl (zq (zd (i:=9) xQ.nd rfl (Or.inl rfl)) (zq (zd (i:=10) xQ.nd rfl (Or.inl rfl)) jW)))) (zF (zh (PW.pt (z4b (zR kF (pv 10) yI (zV _)) (z0b (zR wV (zf yJ rfl u0D u4n (zB (zS (u0L.mono (by first|decide|omega)) hr (zB (pv 10) zE)) zE)) zG (zV _))))) (zF (zQ (i:=5) xQ.nd rfl (Or.inl rfl) (pv 10))) zP))) (zF (zh (zR yX (zN zi (zN zk (pv 7) zG) zG) zG (zV _)) (zF (zQ (i:=9) xQ.nd rfl (Or.inl rfl) (zS (u2p.mono (by first|decide|omega)) hr (zB (pv 1) (zB (pv 3) (zB (pv 8) (zB (zS (u2q.mono (by first|decide|omega)) hr (zB (zN zk (pv 7) zG) (zB (pv 5) zE))) zE))))))) (zF (zQ (i:=9) xQ.nd rfl (Or.inl rfl) (zS (u3L.mono (by first|decide|omega)) hr (zB (pv 1) (zB (pv 3) (zB (pv 8) (zB (zN zk (pv 7) zG) zE))))))))))))) (zF (zh (xb (yE (pv 9) (fun _=>rfl))) (zF (zL qe)) zP)))))))) (zF (zL qe)))))))),?_⟩;walk_at "wpd";intro x dx nx ndx _;refine⟨x,dx,rfl,zH,fun pd H1 dk ne off=>⟨rfl,?_⟩⟩;have S1:Same H H1:=fun b o e=>off b o (zW e nx) (by rw[zb (zW e nx),zb (zW e ndx)];exact e);refine⟨a,ns,27,rfl,S1.seq hS,by decide,_,rfl,z8D hbits,fun NL nms H2 g2 nNL hNL l3 hnm p np=>?_⟩;have dk2:=dk.same g2;refine pA fun Gq gQ=>?_;obtain⟨_,kv,hpd,_,_⟩:=id dk2;refine gQ ?_;have npd:pd≠p:=zW hpd np;have gp:=zJ np (.dK []);have hp:=zH (H:=H2) (a:=p) (o:=.dK []);generalize upd H2 p (.dK [])=H3 at gp hp ⊢;have st0:Std K C H3 x pd p NL a 0 (fun _=>none) nms ns:=⟨dk2.same gp,⟨[],hp,u3y _,fun z=>⟨fun _=>rfl,fun ws e=>nomatch e⟩⟩,gp _ _ hNL,(S1.trans (g2.trans gp)).seq hS,fun z ws e=>nomatch e⟩
 clear hp gp hpd dk2 np hNL nNL g2 S1 dk ne off hS nx ndx;obtain⟨Z,hZ⟩:∃Z:Nat->St->Hp->Prop,Z=fun i σ H'=>∃(o4:Option V) (L:ky),σ=[some (.ref a),some (.ref x),some (.ref NL),some (.ref p),o4,none,none,none,none,none,none]/\Std K C H' x pd p NL a i L nms ns/\∀z∈nms.take i,(L (tx z)).isSome=true:=⟨_,rfl⟩
 refine⟨Z 3,?_,fun σ H4 h4=>?_⟩
 ·walk_at "wpd";refine⟨_,rfl,by decide,by decide,wa Z (by rw[hZ];exact⟨none,_,rfl,st0,fun z h=>by simp at h⟩) (fun i σ H' hi z=>?_) (fun σ H' z=>z)⟩;rw[hZ] at z ⊢;refine pA fun Gr gR=>?_;obtain⟨o4,L,rfl,st,hall⟩:=z;refine gR ?_;have e0:(0:Int)+(i:Int)=i:=by omega
  walk_at "wpd";rw[e0];have i3:i<3:=hi;have il:i<nms.length:=by omega
  have hs:=u4A il;have hm:=hnm _ (u5T il);generalize nms[i]=nm at hs hm;refine zc (SqL.of st.nl) (v:=.str (tx nm)) (ze (by rw[u4T,u4T,hs];rfl)) ⟨a,ns,i,rfl,st.sq,by omega,⟨x,pd,p,nm,_,0,i,L,rfl,st.k,st.b,npd,by omega,hm,z8D hbits,fun H'' ws of kd dk lb=>⟨_,rfl,(fun c=>nomatch c),fun _=>⟨_,_,rfl,st.kept of kd dk lb,fun z hz=>?_⟩⟩⟩⟩;rw[u4N,hs] at hz;rcases u4H.mp hz with hz|hz
  ·exact z4Q (hall z hz)
  ·have:z=nm:=by simpa using hz
   rw[this];exact z9k
 rw[hZ] at h4;refine pA fun Gs gU=>?_;obtain⟨o4,L,rfl,st,hall⟩:=h4;refine gU ?_;rw[u5C (by omega)] at hall;walk_at "wpd";intro F nF;have gF:=zJ nF (.tup [V.str (u3t "in"),V.int 0]);have hF:=zH (H:=H4) (a:=F) (o:=.tup [V.str (u3t "in"),V.int 0]);generalize upd H4 F (.tup [V.str (u3t "in"),V.int 0])=H5 at gF hF ⊢;have st5:=st.same gF;have td:Told K H5 (.ref F):=⟨.inn 0,.inn hF,fun m hm=>by
  simp only [y0G,u3w,u4B,or_false] at hm;rw[hm];exact z8y (by decide) (by decide +kernel),.inn,by decide,by decide⟩
 refine⟨fun _ _=>True,?_,fun σ H6 _=>?_⟩
 ·walk_at "wpd";refine⟨a,_,rfl,st5.sq,fun D1 nD1=>?_⟩;rw[y3M];have lc:(y5A ns (some 3) (some 27)).length<=63:=by unfold y5A;simp;omega
  have bc:∀z∈y5A ns (some 3) (some 27),u4d z<=2^20:=fun z hz=>hbits z (by unfold y5A at hz;exact u6R (List.mem_of_mem_take hz));generalize y5A ns (some 3) (some 27)=cs at lc bc ⊢;intro D2 nD2;have g1:=zJ nD1 (.lst (cs.map V.int));have h1:=zH (H:=H5) (a:=D1) (o:=.lst (cs.map V.int));generalize upd H5 D1 (.lst (cs.map V.int))=H6 at g1 h1 nD2 ⊢;have g2:=zJ nD2 (.lst [V.int 1]);have h2:=zH (H:=H6) (a:=D2) (o:=.lst [V.int 1]);generalize upd H6 D2 (.lst [V.int 1])=H7 at g2 h2 ⊢;refine⟨D1,D2,_,_,rfl,rfl,SqL.of (g2 _ _ h1),SqL.of h2,by rw[u4Q,u3z];show _+1<=_;omega,fun D3 nD3=>?_⟩;rw[show cs.map V.int++[V.int 1]=(cs++[1]).map V.int by simp];have bd:∀z∈cs++[1],u4d z<=2^20:=fun z hz=>by
   rcases u4H.mp hz with hz|hz
   ·exact bc z hz
   ·rw[u4O.mp hz];decide
  have ld:(cs++[1]).length<=64:=by simp;omega
  generalize cs++[1]=ds at bd ld;have g3:=zJ nD3 (.lst (ds.map V.int));have h3:=zH (H:=H7) (a:=D3) (o:=.lst (ds.map V.int));generalize upd H7 D3 (.lst (ds.map V.int))=H8 at g3 h3 ⊢;have G:=(g1.trans g2).trans g3;have st8:=st5.same G;have td8:=td.same G;clear st5 td st hF gF nF st0 g1 g2 g3 h1 h2 nD1 nD2 nD3 G;obtain⟨Y,hY⟩:∃Y:Nat->St->Hp->Prop,Y=fun i σ H'=>∃(o6 o7 o8 o9 o10:Option V) (L:ky) (v:V),σ=[some (.ref a),some (.ref x),some (.ref NL),some (.ref p),o4,some v,o6,o7,o8,o9,o10]/\Std K C H' x pd p NL a (3+i) L nms ns/\(∀z∈nms,(L (tx z)).isSome=true)/\Told K H' v/\H' D3=some (.lst (ds.map V.int)):=⟨_,rfl⟩
  refine⟨D3,rfl,⟨_,SqL.of h3⟩,yv (xs:=ds.map V.int) Y (by rw[hY];exact⟨_,_,_,_,_,L,_,rfl,st8,hall,td8,h3⟩) (fun i σ H' _ z=>?_) (fun i xv σ H' hx z=>?_) (fun σ H' z=>trivial)⟩
  ·rw[hY] at z;refine pA fun Gu gW=>?_;obtain⟨_,_,_,_,_,_,_,_,_,_,_,z⟩:=z;refine gW ?_;exact SqL.of z
  clear hall st8 td8 h3 L;rw[hY] at z ⊢;refine pA fun Gv gX=>?_;obtain⟨o6,o7,o8,o9,o10,L,v,rfl,st,hall,td,h3⟩:=z;refine gX ?_;rw[u4T] at hx;refine pA fun Gw gZ=>?_;obtain⟨c,hc,rfl⟩:=u4e.mp hx;refine gZ ?_;have cb:=bd c (u4F hc);have il:=(u4K.mp hc).1;have nmAt:∀(y:Int) (H1:Hp) (R:VK),Same H' H1->(∀nm,nm∈nms->R (.str (tx nm)) H1)->y3Y K (.ref NL) (.int (y%3)) H1 R:=fun y H1 R g hR=>by
   have b3:=z4p y (show (0:Int)<3 by decide);obtain⟨j,hj⟩:∃j:Nat,y%3=(j:Int):=⟨_,(u6h b3.1).symm⟩
   rw[hj] at b3 ⊢;have jl:j<nms.length:=by omega
   exact zc (SqL.of (g _ _ st.nl)) (ze (by rw[u4T,u4T,u4A jl];rfl)) (hR _ (u5T jl))
  walk_at "wpd";refine⟨_,rfl,u5I (y5E cb (show u4d 1<=2^20 by decide)) (by decide),fun num n0 n1=>?_⟩;walk_at "wpd";refine⟨by decide,nmAt num H' _ (Same.refl _) fun m1 hm1=>⟨z7x 10 (by decide) (by decide) (by decide),by decide,nmAt (num/3) H' _ (Same.refl _) fun m2 hm2 S nS=>?_⟩⟩;have gS:=zJ nS (.lst [V.str (tx m1),V.str (tx m2)]);have hS:=zH (H:=H') (a:=S) (o:=.lst [V.str (tx m1),V.str (tx m2)]);generalize upd H' S (.lst [V.str (tx m1),V.str (tx m2)])=H9 at gS hS ⊢;have st9:=st.same gS;have td9:=td.same gS;have h39:=gS _ _ h3;have b1:=hnm _ hm1;have b2:=hnm _ hm2;obtain⟨ws,e1⟩:=Option.isSome_iff_exists.mp (hall m1 hm1);obtain⟨us,e2⟩:=Option.isSome_iff_exists.mp (hall m2 hm2);have kw:=st.kd _ _ e1;have ku:=st.kd _ _ e2;obtain⟨M,hM⟩:∃M:St->Hp->Prop,M=fun σ H''=>∃(o:Option V) (L:ky) (v:V),σ=[some (.ref a),some (.ref x),some (.ref NL),some (.ref p),o4,some v,some (.int c),some (.int num),some (.ref S),some (.bl true),o]/\Std K C H'' x pd p NL a (3+i+1) L nms ns/\(∀z∈nms,(L (tx z)).isSome=true)/\Told K H'' v/\H'' D3=some (.lst (ds.map V.int)):=⟨_,rfl⟩
  refine⟨M,?_,fun σ H10 h=>?_⟩
  ·walk_at "wpd";have d9:z9I num 9:=z7x 10 (by decide) (by decide) (by decide);have d63:z9I num 63:=z7x 10 (by decide) (by decide) (by decide);refine⟨d9,by decide,fun _=>zc (SqL.of hS) (ze (j:=0) rfl) ⟨d63,x,pd,p,m1,c,num/63,_,L,rfl,st9.k,st9.b,npd,by omega,b1,cb,fun H10 ws of kd dk lb=>?_⟩,fun _=>⟨d9,by decide,fun _=>⟨x,pd,p,S,m1,m2,_,L,ws,us,rfl,st9.k,st9.b,by omega,hS,b1,b2,e1,e2,kw,ku,fun F u H10 g10 nF hF hu=>?_⟩,fun _=>⟨d9,by decide,fun _=>⟨d63,?_⟩,fun _=>⟨d63,x,pd,p,S,m1,m2,_,L,ws,us,num/63,rfl,st9.k,st9.b,by omega,hS,b1,b2,e1,e2,kw,ku,fun H10 g10=>?_⟩⟩⟩⟩
   ·rw[hM];exact⟨_,_,v,rfl,st9.kept of kd dk lb,fun z hz=>z4Q (hall z hz),td9.by (st9.off of),(st9.off of).1 _ _ h39⟩
   ·refine⟨F,_,rfl,SqL.of hF,rfl,?_⟩;walk_at "wpd";have same:∀H11,Same H10 H11->M [some (.ref a),some (.ref x),some (.ref NL),some (.ref p),o4,some v,some (.int c),some (.int num),some (.ref S),some (.bl true),some u] H11:=fun H11 g11=>by
     rw[hM];have G:=g10.trans g11;exact⟨_,L,v,rfl,(st9.same G).up,hall,td9.same G,G _ _ h39⟩
    refine⟨fun c=>?_,fun _=>same _ (Same.refl _)⟩;rcases hu with hu|⟨pp,hv,ok,ne,kn,dp⟩
    ·exact absurd hu c
    have l2:=qC pp ok;refine⟨u,pp,rfl,hv,ok,by omega,by omega,fun H11 g11=>⟨_,rfl,by rw[zU];omega,fun _=>?_,fun _=>same _ g11⟩⟩;rw[hM];have G:=g10.trans g11;exact⟨_,L,u,rfl,(st9.same G).up,hall,⟨pp,hv.mono g11,ok,ne,kn,dp⟩,G _ _ h39⟩
   ·refine pA fun Gx fA=>?_;obtain⟨pp,hv,ok,ne,kn,dp⟩:=id td9;refine fA ?_;refine⟨num/63,v,pp,rfl,hv,dp,ok,ne,kn,fun v' p' H10 g10 hv' d' ok' k'=>⟨x,pd,p,S,m1,m2,_,L,ws,us,v',p',rfl,st9.k.same g10,st9.b.same g10,by omega,g10 _ _ hS,b1,b2,e1,e2,kw,ku,hv',ok',k',d',fun H11 g11=>?_⟩⟩;rw[hM];have G:=g10.trans g11;exact⟨_,L,v,rfl,(st9.same G).up,hall,td9.same G,G _ _ h39⟩
   ·rw[hM];exact⟨_,L,v,rfl,(st9.same g10).up,hall,td9.same g10,g10 _ _ h39⟩
  rw[hM] at h;refine pA fun Gy fB=>?_;obtain⟨o,L,v,rfl,st,hall,td,h3⟩:=h;refine fB ?_;walk_at "wpd";exact⟨_,_,_,_,_,L,v,rfl,st,hall,td,h3⟩
 walk_at "wpd";exact q H6
theorem fin {fa:Addr} {h:Heap} (KX:K.In h) (G:h.Ns u4z mg) (hfa:mg "law" = some (.ref fa)) (u3c:TF K mg "divisor" z0Y) (u2I:TF K mg "least_round" jS) (u2X:TF K mg "least_part" jv) (u3d:TF K mg "lies_in" z0T) (u2r:TF K mg "right_for" qq) (u1z:TF K mg "part_of_part" xp) (u3e:TF K mg "lets_by" z0U) (u2s:TF K mg "lets_meet" qu) (u3D:TF K mg "awake" z6D) (u2Y:TF K mg "plan_round" jp) (T_hole:TF K mg "hole" z9l) (u2J:TF K mg "cover_paper" jU) (u1m:TF K mg "paper_of_part" x5) (u3p:TF K mg "meets" z6C) (u3f:TF K mg "parting" z0R) (u1n:TF K mg "shifts_of_two" xZ) (u3n:TF K mg "shifts" z2r) (u2A:TF K mg "lonely_shift" xq) (u1o:TF K mg "meeting_paper" x8) (u2K:TF K mg "paper_names" jR) (u3g:TF K mg "pair_of" z0S) (u2Z:TF K mg "pair_round" jr) (u2a:TF K mg "paper_wait" jq) (u2b:TF K mg "divided_up" jy) (u3h:TF K mg "climbed" z0Z) (u2t:TF K mg "first_hit" kC) (u3i:TF K mg "shifted" z0P) (u3M:TF K mg "together" wK) (u1p:TF K mg "next_together" x6) (u2c:TF K mg "next_begin" ju) (u3j:TF K mg "plan_of" z0Q) (u2u:TF K mg "is_waking" kA) (u2v:TF K mg "pair_plan" qt) (u3N:TF K mg "is_prime" wQ) (u2w:TF K mg "grid_plan" kB) (u2x:TF K mg "read_plan" qr) (u2L:TF K mg "read_waking" jP) (u2M:TF K mg "read_number" jQ) (u2d:TF K mg "is_figures" jx) (u2e:TF K mg "shown_plan" ji) (u2B:TF K mg "shown_waking" xo) (u2N:TF K mg "shown_paper" jO) (u2f:TF K mg "read_paper" jm) (u3O:TF K mg "words_of" wJ) (T_fits:TF K mg "fits" z9m) (u3k:TF K mg "is_name" z0X) (u3l:TF K mg "is_turn" z0W) (u2y:TF K mg "told_plan" qp) (u2O:TF K mg "turn_answer" jM) (u2P:TF K mg "sure_answer" jN) (u2C:TF K mg "check_answer" xr) (u2Q:TF K mg "_law_cell_at" jT) (u3m:TF K mg "_law_big" z0V) (u2z:TF K mg "_law_names" qv) (u3P:TF K mg "_law_plan" wN) (u3Q:TF K mg "_law_told" wL) (u2g:TF K mg "_law_lonely" jw) (u3R:TF K mg "_law_sure" wM) (u1q:TF K mg "_law_exchanged" x9) (u3A:TF K mg "_law_check" qw) (u3B:TF K mg "_law_asked" qy) (u3S:TF K mg "_law_kept" wP) (u3T:TF K mg "_law_meet" wO) (T_law:TF K mg "law" y4J) (u0D:mg "len" = none) (u1d:mg "min" = none) (u3E:mg "max" = none) (u1f:mg "all" = none) (u3H:mg "zip" = none) (u0j:mg "int" = none) (u0I:mg "str" = none) (u0J:mg "list" = none) (u1t:mg "tuple" = none) (u0O:mg "range" = none) (u1U:mg "reversed" = none) (u0F:mg "isinstance" = none) (u1P:mg "enumerate" = none) (u3F:mg "set" = none) (u1g:mg "sorted" = none) (u1N:mg "ValueError" = none) (u1s:CDT P w K mg "FORMS" z1L) (u0P:CI mg "MOST_FIGURES" 100) (u0v:CI mg "MOST_WAKINGS" 12) (u0Y:CI mg "MOST_DEPTH" 40) (u0t:CI mg "MOST_LETTERS" 8) (u0n:CI mg "PRIME_FIGURES" 12) (u0u:CI mg "GRID_FIGURES" 50) (u0l:CI mg "LONGEST_ROUND" 5000) (u0k:CS mg "FIGURES" "0123456789") (u1c:CS mg "LETTERS" "abcdefghijklmnopqrstuvwxyz") (u0a:CT K mg "ALL_TURNS" [1,0]) {u0B u1A u0E u0h u0A u0f u0R u0W:Addr} (u0c:OX K mg "MeetError" u0B VE) (u1M:OX K mg "NoPlan" u1A (.ref u0B::VE)) (u0N:OX K mg "NoPaper" u0E (.ref u0B::VE)) (u0p:OX K mg "NoPrimes" u0h (.ref u0B::VE)) (u0G:OX K mg "TooMany" u0A (.ref u0B::VE)) (u0g:OX K mg "NoText" u0f (.ref u0B::VE)) (u0e:OX K mg "NoName" u0R (.ref u0B::VE)) (u0X:OX K mg "NoRow" u0W (.ref u0B::VE)) (u0V:OC K u0A) (ndE:[u0B,u1A,u0E,u0h,u0A,u0f,u0R,u0W].Nodup) {u0r:Addr} (u0b:Cls K u0r) (u2R:NoAttr K u0r "plans") (u1w:u6d K u0r=true) (u1x:u5L K (.ref u0r)=true) (u1y:mg "Desk" = some (.ref u0r)) (u1r:TM K u0r "__init__" "Desk.__init__" xa) (u3C:TM K u0r "told" "Desk.told" kD) (u2D:TM K u0r "plan_by" "Desk.plan_by" xu) {u0H:Addr} (u0C:Cls K u0H) (u1Y:NoAttr K u0H "text") (u1V:NoAttr K u0H "place") (u0w:u6d K u0H=true) (u0x:u5L K (.ref u0H)=true) (u0y:mg "PaperReader" = some (.ref u0H)) (u1S:TM K u0H "__init__" "PaperReader.__init__" yW) (u1W:TM K u0H "passes" "PaperReader.passes" ya) (u1Z:TM K u0H "needs" "PaperReader.needs" yk) (u1G:TM K u0H "next_number" "PaperReader.next_number" yL) (u1H:TM K u0H "next_papers" "PaperReader.next_papers" zt) (u1O:TM K u0H "next_paper" "PaperReader.next_paper" zm) :
  ∃fd:FuncData,(∀(s:Shared) (v:Value),BindsTo s fd ⟨[v],[]⟩ [("script",v)])/\∀base:Heap,K.In base->base.Ns u4z mg->FnOk P w K mg base CX0 91 fa fd ["script"] (sp_law K):=
 y4k KX G hfa fun _ _ _=>
  have X:DkTx K u0r:=⟨u0b,u2R⟩
  have XR:RdTx K u0H:=⟨u0C,u1Y,u1V⟩
  have fgM:=z3f u2d u0D u1f u0k;have rn:=z1U u2M u0j u0P fgM;have rp:=z6R u2x u0D u0v (z3Y u2L u0D u1t rn) (y0g u3j u0J (z6Y u2u));have ps:=y2x XR u1W u0D;have ne:=y4m u0C u1Z ps;have nn:=z3c XR u1G u0D u0k rn;have np:=z2D u0C u1O u1H u0Y ps ne nn 41;have rpa:=z5F XR u0C u0w u0x u0y u2f u0D (y4l XR u1S) np;have sp:=z3X u2N 16;have dv:=y0p u3c;have sh:=y2w u3n (z0z u1n u1d dv);have li:=y0k u3d dv;have po:=z1V u1z;have lr:=z3d u2I dv;have lp:=z5K u2X;have ho:=y4o T_hole u0O u0l u0G (z5G u2Y lr) (y0r u3D);have co:=z3g u2J u0D u0O u0J u0a ho (z1A u1m u0O (y4n u3p dv) li (y0i u3f dv lp) po 13);have lm:=z6U u2s sh (y0l u3e u0a (z6Q u2r u0D u1P li po 16));have pw:=z3Z u2a u3E u3F u1g u0N lm (z3a u2K 16) (z5H u2Z (y0j u3g u0D) lr);have pwq:=z8m (sp':=fun vs H Q _=>xi K u0E 16 vs H Q fun _ _ _=>False) pw fun _ _ _ _ z=>z;have lo:=z1W u2A sh ho;have sa:=z3W u2P (z1C u1o sh co) lo (y3j pw) sp;have d:=z5M u2b;have nt:=z1B u1p u1d (z8o u3M (y0r u3D)) (y0f u3i) (z5J u2c (z6a u2t d (y0q u3h u1U d)));have wo:=z8n u3O u0D u3H u0F u0I u0X u1s (y6R T_fits u0n u0u fgM (y0o u3k u0D u1f u1c u0t) (y0n u3l u0P fgM));have tp:=z6P u2y u0j rp (z6S u2v (z8u u3N lp)) (z6Z u2w);have td:=y2v X u0b u3C u0j wo tp (y0h X u2D u0e) rpa sa (z1X u2C u0N (y3j pw)) (z3V u2O u0I) nt;have lt:=z8p u0b u0c u1M u0N u0p u0G u0g u0e u0X u0V ndE u3Q u0F u0I u1N td;have bg:=y0m u3m;have su:=z8q u3R u0J u0I u0F u0c u0g lt (z5L u2g u0J u0I u0G lo) (y4j rpa) lm pwq sp;have ch:=z6W u3A u0J u0I lt lm pwq sp;have ke:=z8t u3S u0I lt (z8r u3P u0O bg) (z5E u2e u0D (z1T u2B u0I))
  y6x u0b u1w u1x u1y T_law u0D u0O (y4p X u1r) (z3e u2Q u0D) bg (z6V u2z u0D bg) ke su ch (z6X u3B (z1D u1q 14)) (z8s u3T u0J u0I lt nt) sp
end
end SMk83
local macro_rules | `(tactic| walk_at "cdt_one")=>`(tactic| (refine' L2.CPairs.cons ?kk ?hh ?vv ?ll ?cc ?dd ?zz ?ww ?rr;(case kk=>rfl);(case vv=>rfl);(case ll=>k_is);(case cc=>rfl);(case dd=>rfl);(case zz=>decide);(case hh=>rfl);(case ww=>repeat (first|exact Paired.nil|refine Paired.cons ⟨_,rfl⟩ ?_))))
local macro_rules | `(tactic| walk_at "cdt_all")=>`(tactic| (walk_at "cdt_one";walk_at "cdt_one";walk_at "cdt_one";walk_at "cdt_one";walk_at "cdt_one";walk_at "cdt_one";walk_at "cdt_one";walk_at "cdt_one";exact L2.CPairs.nil))
namespace PySem.W.Fast
def tw10011604737919593431:=0
def tw10018475772055684364:=0
def tw10032273155406962613:=0
def tw10039789475913517058:=0
def tw10057257982574174374:=0
def tw10142739589326461943:=0
def tw10154897390387310314:=0
def tw10158965216764309489:=0
def tw10160956853304912716:=0
def tw10253160270498478634:=0
def tw10265413879469980817:=0
def tw10275104600981530822:=0
def tw103053167367233778:=0
def tw10308085649496725419:=0
def tw10325319696450852526:=0
def tw1035748159388902187:=0
def tw10371296562135491608:=0
def tw10390235762589571964:=0
def tw1047372632737399406:=0
def tw10480433087654143093:=0
def tw10483005502936649117:=0
def tw10488921744616077172:=0
def tw10490680048072934462:=0
def tw10506227861760234815:=0
def tw10523308326248258547:=0
def tw10537593137196285245:=0
def tw10539090373143385330:=0
def tw10578013959134872508:=0
def tw10579809912712866570:=0
def tw10585526742682628648:=0
def tw10626572187633790359:=0
def tw10651119122897160812:=0
def tw10670498992584042461:=0
def tw10697887660024955348:=0
def tw10732140812145154197:=0
def tw10734272738594900516:=0
def tw10744924488370441526:=0
def tw10778144822795945452:=0
def tw10778255682075021518:=0
def tw10783936763294019675:=0
def tw10793383457996823949:=0
def tw10830710261011153880:=0
def tw10843252646524984221:=0
def tw10843921143267392568:=0
def tw10849956107022340220:=0
def tw10865891164252905998:=0
def tw108756986115978945:=0
def tw10877887055379022520:=0
def tw10921289201167804780:=0
def tw10931350853494772268:=0
def tw1096084565534035121:=0
def tw11012815088470642711:=0
def tw11032060313778702804:=0
def tw11056998232651428510:=0
def tw11061397981818463314:=0
def tw1106480050814825900:=0
def tw11064819943711449766:=0
def tw11081535913324685103:=0
def tw11096268337414380802:=0
def tw11114278033414807742:=0
def tw11116514724809156583:=0
def tw11164539390083539999:=0
def tw11177460185139321530:=0
def tw11184238678042758271:=0
def tw1119580069699132589:=0
def tw11200868985222102631:=0
def tw11207427145889478322:=0
def tw11215238174029049679:=0
def tw1122690150737208107:=0
def tw11234151426084958376:=0
def tw11261681301124890239:=0
def tw112625298899157368:=0
def tw11297034290319370283:=0
def tw11330629040422979548:=0
def tw11349592871380235238:=0
def tw11397354723251862601:=0
def tw11406433482242539678:=0
def tw11453397447459492005:=0
def tw11460577231732207506:=0
def tw1148443534175512815:=0
def tw11534430990249195403:=0
def tw11561594569709903361:=0
def tw11586832543137855271:=0
def tw11600804196688939485:=0
def tw11619871458589165309:=0
def tw11638023492739398596:=0
def tw11661741372587978687:=0
def tw1169076155581813080:=0
def tw11713596270694199986:=0
def tw11775780964612171691:=0
def tw11781559477935977916:=0
def tw11784480544320046766:=0
def tw11834271887195988635:=0
def tw11840356329897319674:=0
def tw11843785521359300906:=0
def tw11857852151538315681:=0
def tw11872521331436354741:=0
def tw11911416747349356321:=0
def tw11926142595920354786:=0
def tw11937717442677369905:=0
def tw11948829132545754380:=0
def tw11981788518354378441:=0
def tw12018440406970923526:=0
def tw1203773749083570770:=0
def tw1208933465099597960:=0
def tw12122004728167120712:=0
def tw12143390028852162867:=0
def tw12145527671598450372:=0
def tw12180376994551977747:=0
def tw12213791132588459818:=0
def tw12225767476518675034:=0
def tw12228928281190719614:=0
def tw12285941947057376136:=0
def tw12298961343594751863:=0
def tw12299169480000268085:=0
def tw12346836578390716751:=0
def tw12376880850397546501:=0
def tw1240133216054806947:=0
def tw12453599570391089334:=0
def tw12538586981803338914:=0
def tw12542861771745744500:=0
def tw12588035441557737067:=0
def tw12603728194170770212:=0
def tw12605134592245697676:=0
def tw1264708221179095916:=0
def tw12669939204719208364:=0
def tw12688575252009694980:=0
def tw1272784611645022370:=0
def tw12776644911296272589:=0
def tw12778435497376593733:=0
def tw12806524092928228948:=0
def tw12814880758679241708:=0
def tw12863685010146719881:=0
def tw12884363267629009417:=0
def tw12907576506184246954:=0
def tw1291845535635563315:=0
def tw12932603573676159943:=0
def tw12966786288529670431:=0
def tw12998747251365701681:=0
def tw13003510491175051821:=0
def tw13007846215539878123:=0
def tw13019514018668752652:=0
def tw13073807118769640144:=0
def tw13084739548886938563:=0
def tw13102255589970777140:=0
def tw13128779505805516939:=0
def tw13214667461509619973:=0
def tw13313924551545656685:=0
def tw13385995705440763578:=0
def tw1342240581999428662:=0
def tw13432394564102086682:=0
def tw13438377174130203169:=0
def tw134465743647191669:=0
def tw13471717491859293348:=0
def tw13535651796578496386:=0
def tw13563520573940371117:=0
def tw13578672967837793720:=0
def tw13656068542211869641:=0
def tw13663791991568213055:=0
def tw13700704608262113522:=0
def tw13708262598966864018:=0
def tw13718640736928872488:=0
def tw1372534403233532360:=0
def tw13729316145066047405:=0
def tw13744650884145985456:=0
def tw13803826705100824784:=0
def tw13807308755693043980:=0
def tw13808679412981041457:=0
def tw13868558875069176505:=0
def tw13884211932574976384:=0
def tw13912384859378594168:=0
def tw13919723745175011714:=0
def tw13921160919637947198:=0
def tw13938745243141309574:=0
def tw13970358169118264013:=0
def tw13980419305715547216:=0
def tw13997343874523087290:=0
def tw13997733779865304843:=0
def tw14000797608889492453:=0
def tw14005136045027235335:=0
def tw14005434513902416902:=0
def tw14018210541476779215:=0
def tw14030759009428289102:=0
def tw14055913104715314335:=0
def tw14067197619368379898:=0
def tw14117017501386504685:=0
def tw14134222316445380347:=0
def tw1417048413170921149:=0
def tw14217752528887986021:=0
def tw14259905844566721541:=0
def tw14317455510185185362:=0
def tw14334729858533270534:=0
def tw14351255913108854098:=0
def tw1438794946697034285:=0
def tw14400587855711156137:=0
def tw14460235358057555828:=0
def tw14464067911658380589:=0
def tw14487565777539858991:=0
def tw14492089514789946337:=0
def tw14516561330336623373:=0
def tw14517171159146080826:=0
def tw14530752644610271038:=0
def tw14541650726735588069:=0
def tw14571558329540068399:=0
def tw14581905907544851394:=0
def tw14602889649259045596:=0
def tw14632485213082450654:=0
def tw14662219772944452161:=0
def tw14678339841308409642:=0
def tw14704732700985734234:=0
def tw14728971545385607749:=0
def tw14793226614760829504:=0
def tw14836830615573926597:=0
def tw14843874876054582427:=0
def tw14855592112816385118:=0
def tw14859899162219801547:=0
def tw14907663333796020016:=0
def tw14926016590094289447:=0
def tw14927327689707229636:=0
def tw14928859971829456665:=0
def tw14935699936881248778:=0
def tw14952105648080523605:=0
def tw14968150248130152357:=0
def tw14976333679670270187:=0
def tw15053666530709213330:=0
def tw15053749964517500787:=0
def tw15078723618188339350:=0
def tw15083696532746897147:=0
def tw15085041181808923084:=0
def tw15106576564194693755:=0
def tw1512657481886994705:=0
def tw15136916271616336160:=0
def tw15173398790615563220:=0
def tw15240437092529702412:=0
def tw15240964862334461926:=0
def tw15261446587941508536:=0
def tw15285075298248642224:=0
def tw15292903315654028611:=0
def tw15320365405996776283:=0
def tw15326837960681532069:=0
def tw1532792831617948531:=0
def tw15344616358232657317:=0
def tw15346715868149266044:=0
def tw15381015955495392075:=0
def tw15386171508054810561:=0
def tw1539328867972569713:=0
def tw15394232539680483007:=0
def tw15416861104103319476:=0
def tw15442496728774892110:=0
def tw15451340163675061738:=0
def tw15496630920733794674:=0
def tw15511214766001813588:=0
def tw15522934415755255714:=0
def tw15540376737203563954:=0
def tw15544397719405948550:=0
def tw15548780223117345251:=0
def tw15550767730547723284:=0
def tw15584583680715639692:=0
def tw15589341346389201179:=0
def tw15661819649005240201:=0
def tw15667227833265544694:=0
def tw15673485782303342596:=0
def tw15675588536071149037:=0
def tw15681401660999615197:=0
def tw15709400934652914614:=0
def tw15729515325552022526:=0
def tw15823355916890315599:=0
def tw15872662438839029192:=0
def tw15881338511250676531:=0
def tw15903623867345514326:=0
def tw15915623983399137355:=0
def tw15915948585056977863:=0
def tw15927888138681127119:=0
def tw15942764299889606236:=0
def tw15944862743955669994:=0
def tw15945083265627053519:=0
def tw15967843137484844687:=0
def tw16000205376781564220:=0
def tw16030461411492710073:=0
def tw16032921569419333688:=0
def tw16042368831541489371:=0
def tw16078805597963651266:=0
def tw1612149429289808668:=0
def tw16200011357767013937:=0
def tw16202236847133458332:=0
def tw16231086878295314570:=0
def tw16239940060182429729:=0
def tw16243466470183991864:=0
def tw16285242069471747694:=0
def tw16295731851498626702:=0
def tw16328382551712503485:=0
def tw16328432733181660451:=0
def tw16329869178983037872:=0
def tw16352230792991972672:=0
def tw16388160180701754029:=0
def tw16425286870687484535:=0
def tw16498329263123328488:=0
def tw16504531541380327235:=0
def tw16533096416740105541:=0
def tw16539715555899018518:=0
def tw16543602361970301461:=0
def tw1654594351321279584:=0
def tw16581636354993156617:=0
def tw16617117622684963081:=0
def tw16659238062286989333:=0
def tw16685911297364349929:=0
def tw16705396542088286950:=0
def tw16746603962566545357:=0
def tw16841696119979259484:=0
def tw16842721999040431976:=0
def tw16890454139792008296:=0
def tw16893808785348622248:=0
def tw16916934256465211941:=0
def tw16952619105766999101:=0
def tw16957800629045636400:=0
def tw16994682177057515333:=0
def tw16998532291687725056:=0
def tw17016794083691765587:=0
def tw17039541009041778078:=0
def tw17107226459104425537:=0
def tw17113959867234670916:=0
def tw17135355701806719352:=0
def tw1721655738323273373:=0
def tw17220464315140424854:=0
def tw17315790302230336131:=0
def tw17344217946021777569:=0
def tw17354108021352202487:=0
def tw17357463936216304438:=0
def tw17378110381559766314:=0
def tw17386393499636276806:=0
def tw17451931918820885426:=0
def tw17473332098617696915:=0
def tw17478356794305935590:=0
def tw1748223079800991149:=0
def tw17487088673229645068:=0
def tw1749415757353391669:=0
def tw17501470603238964668:=0
def tw17528362026904279818:=0
def tw17547353323029451419:=0
def tw17552866637586759576:=0
def tw17596497792478114241:=0
def tw17605061387011449671:=0
def tw17611184980680805993:=0
def tw17632964609663099905:=0
def tw17671504076662980640:=0
def tw17696690487932404205:=0
def tw17702310959769794783:=0
def tw17726951904618277946:=0
def tw1774278819854117165:=0
def tw17772913184590828458:=0
def tw17808509535568449733:=0
def tw1786011884661670291:=0
def tw17892081853604077596:=0
def tw17946147683158359453:=0
def tw17975188246502584307:=0
def tw18004473725966790629:=0
def tw18096690946807448525:=0
def tw18106759958263360009:=0
def tw18131723498494327500:=0
def tw18141752319353465123:=0
def tw18143703036583222740:=0
def tw18145173777150047725:=0
def tw1819248375307594965:=0
def tw18243844982097380809:=0
def tw18255296537655037938:=0
def tw18256599725741178738:=0
def tw18262270168836997336:=0
def tw18289472518800746201:=0
def tw18305849032638764360:=0
def tw18342598007802121401:=0
def tw18349770441256138022:=0
def tw18372179623910709306:=0
def tw1839049304964242993:=0
def tw18394971030774333017:=0
def tw18412276927271908838:=0
def tw18414462987769602334:=0
def tw1864744980857068887:=0
def tw1936735987876385939:=0
def tw198054105256180491:=0
def tw2030973239209259846:=0
def tw2058557334528799990:=0
def tw2097346608898243661:=0
def tw210993016278040666:=0
def tw2159060548845464241:=0
def tw2185234315289514457:=0
def tw2206115954476035881:=0
def tw2261154925470935536:=0
def tw22938795508222261:=0
def tw2370710828512519440:=0
def tw2390452973264866349:=0
def tw243882362542853673:=0
def tw2525063840515815481:=0
def tw2531383983966764726:=0
def tw2555575652944704280:=0
def tw2558262713473577940:=0
def tw2566323684399939512:=0
def tw2581055394347324956:=0
def tw2582711860567406242:=0
def tw2615050014332330020:=0
def tw2618163279046972643:=0
def tw2649948721694035199:=0
def tw2680150656440515234:=0
def tw2685192237733445404:=0
def tw271277669795475540:=0
def tw2725258436247161893:=0
def tw272619912683982397:=0
def tw2729885239524700228:=0
def tw2752582703172659960:=0
def tw2823856299931813383:=0
def tw2826973890870171216:=0
def tw283842792861104894:=0
def tw2842448381574277493:=0
def tw2849945387032058090:=0
def tw2865809792327106398:=0
def tw2907381086966732803:=0
def tw2929158453836945898:=0
def tw2952335593250184784:=0
def tw2963513060937675858:=0
def tw2994523340357650527:=0
def tw3021011527018795349:=0
def tw305729019085751357:=0
def tw306292721289474328:=0
def tw3063479190681712295:=0
def tw3102639612847362192:=0
def tw3117499998589646849:=0
def tw312519488575545134:=0
def tw3144096837633875632:=0
def tw3175291842977566630:=0
def tw3219419145983412497:=0
def tw3237807494697953487:=0
def tw3300279813484452190:=0
def tw3304040546772090116:=0
def tw3306599900356633893:=0
def tw3309543440966878889:=0
def tw3339760748136525230:=0
def tw3350674031443223745:=0
def tw3366390811624852181:=0
def tw3382131125123712950:=0
def tw3382934412973917270:=0
def tw3390361513542426682:=0
def tw3398714150982942195:=0
def tw3504862977847892424:=0
def tw3513527727203795421:=0
def tw3577243105860135745:=0
def tw3590704507211081288:=0
def tw3601441445006236077:=0
def tw3602200211352855783:=0
def tw361505415878054808:=0
def tw3619076625654081089:=0
def tw3650251813901781386:=0
def tw3660553222181624275:=0
def tw3697572179411857472:=0
def tw3702457900441510296:=0
def tw3785390880809444960:=0
def tw3790780805074707992:=0
def tw3813693695013090768:=0
def tw3835901528262780173:=0
def tw3873393730191649260:=0
def tw3893734135085874816:=0
def tw3893755199382364779:=0
def tw3921218615523207116:=0
def tw3929108895086776762:=0
def tw3954221597175939798:=0
def tw3957138114921352966:=0
def tw3964701141378332507:=0
def tw3981719763851531075:=0
def tw3998941339024618444:=0
def tw4066123311597416754:=0
def tw4100563428464131850:=0
def tw4104949988853895231:=0
def tw4125772302772096248:=0
def tw4135347889785989249:=0
def tw418009465117835439:=0
def tw4181256292821267123:=0
def tw4252622135231013214:=0
def tw427294985889091778:=0
def tw4281034705450899471:=0
def tw4283620179235050599:=0
def tw4293973934931106006:=0
def tw4339170393956985844:=0
def tw4348442936321810249:=0
def tw4361520983980469517:=0
def tw4395836342522210645:=0
def tw4417348518305297790:=0
def tw4442966589682703034:=0
def tw4479955536902586776:=0
def tw4487902815584573464:=0
def tw4515298118153904806:=0
def tw4524408053673451511:=0
def tw4526209081089023069:=0
def tw4551170727067867263:=0
def tw456830427159978135:=0
def tw4584081752356940752:=0
def tw4624251078200540762:=0
def tw4636900851153355240:=0
def tw4667694732466204709:=0
def tw4765483463664738630:=0
def tw4773569238545684375:=0
def tw4875059724185024351:=0
def tw5009259358825829383:=0
def tw5022038993231023764:=0
def tw5029067763974289211:=0
def tw5112930412525141230:=0
def tw5129579766710445836:=0
def tw5146051741919961128:=0
def tw518667686401858108:=0
def tw5200132535898114595:=0
def tw5219219194436629843:=0
def tw5234755585539009066:=0
def tw5238126765432266440:=0
def tw525516183448293354:=0
def tw5296746440928898091:=0
def tw5347761515837739007:=0
def tw5449100071240493429:=0
def tw5460031828850670772:=0
def tw5474700845966542624:=0
def tw5524882802669166840:=0
def tw5567690519819916685:=0
def tw5602982695031610130:=0
def tw5608232270694439765:=0
def tw5622697539735322103:=0
def tw5622990197651331075:=0
def tw5627694877939339478:=0
def tw5631598384108846954:=0
def tw5636438102639311449:=0
def tw564926274577766045:=0
def tw5654362991101843253:=0
def tw5668136621058228187:=0
def tw5721071381279796518:=0
def tw5735685460967991464:=0
def tw5750314243102333702:=0
def tw5786971761991067313:=0
def tw5804780299402870736:=0
def tw581108711519006177:=0
def tw5819884978010235318:=0
def tw5822010796511359154:=0
def tw5840734652097172582:=0
def tw5841294181429904273:=0
def tw5862419694282552762:=0
def tw5889822795464269749:=0
def tw5906487425884129124:=0
def tw5934602936292222903:=0
def tw5949443976276598811:=0
def tw5988389331737433952:=0
def tw6038923495073826012:=0
def tw6091184635881000042:=0
def tw610345972034916228:=0
def tw6107022015771424006:=0
def tw6172213480761591574:=0
def tw6189912186965932001:=0
def tw6196122476503447638:=0
def tw6205257272845052060:=0
def tw6212542910785386584:=0
def tw6238502768969229145:=0
def tw6309552910643973237:=0
def tw6317754318449228215:=0
def tw6339267115778433677:=0
def tw6384867483880642739:=0
def tw6451658326563662255:=0
def tw6483044522063367650:=0
def tw6498446770127754610:=0
def tw6514867361747230781:=0
def tw6529577059268375709:=0
def tw6554707788628436394:=0
def tw6574584716476678348:=0
def tw659047174795598628:=0
def tw6604830563876927008:=0
def tw6666028392055867006:=0
def tw6717317384228161055:=0
def tw6720117061431302244:=0
def tw6733564049709973639:=0
def tw6748355388044243523:=0
def tw6757097178513502726:=0
def tw6795384088816180555:=0
def tw6798907097522541774:=0
def tw6806711423929265256:=0
def tw680956714179649414:=0
def tw6820770352729572301:=0
def tw6858854310461640585:=0
def tw6861300403479572869:=0
def tw6863385210217386334:=0
def tw6906147489281053927:=0
def tw6906892815654062521:=0
def tw6931112242203569526:=0
def tw6935497255881164416:=0
def tw6943905946214350859:=0
def tw6944444077407956285:=0
def tw7007180407797759016:=0
def tw7025691456794204781:=0
def tw7033270380864005849:=0
def tw7064901768113856043:=0
def tw7097649380352830830:=0
def tw7100311764815287620:=0
def tw7131959539773007705:=0
def tw7147852271619496900:=0
def tw7165051754729558436:=0
def tw7169715529148207553:=0
def tw7176576720124090395:=0
def tw7183317726317725051:=0
def tw7194438387705067095:=0
def tw7234555059323081512:=0
def tw7246602893838557639:=0
def tw7286964087219495098:=0
def tw7313936784395762637:=0
def tw7333648137894576781:=0
def tw7353733733729598645:=0
def tw7428955103054411715:=0
def tw7480116860903966053:=0
def tw7493802652502722681:=0
def tw7530111937749885619:=0
def tw755517900867440293:=0
def tw7584308683394855041:=0
def tw7592586330217443993:=0
def tw7637204335288192571:=0
def tw7662101336338729476:=0
def tw7671697908445339360:=0
def tw7687296760489067124:=0
def tw7695757572534378836:=0
def tw7715740772159577744:=0
def tw7718844660172073976:=0
def tw7749569521611026444:=0
def tw7753904863456127911:=0
def tw7777543858617021659:=0
def tw7777902750432110706:=0
def tw7802341216827958948:=0
def tw7803427943694297523:=0
def tw7807190449991224352:=0
def tw782145348851635913:=0
def tw7837921722640231853:=0
def tw7854130250817478393:=0
def tw7868168443630230003:=0
def tw7882975221945289471:=0
def tw79065520889128111:=0
def tw7973147109466648305:=0
def tw798060444698343476:=0
def tw7983706937237416504:=0
def tw7991270266511254146:=0
def tw8028398080927396109:=0
def tw803927723131630950:=0
def tw8074844228761093144:=0
def tw8078683845397921371:=0
def tw8079573239553656793:=0
def tw8082210327078226367:=0
def tw8097324391220310268:=0
def tw8117416986579612833:=0
def tw8209146272634977819:=0
def tw8215719213634608693:=0
def tw823022632544525339:=0
def tw826563838647364734:=0
def tw8266208747087949184:=0
def tw8371990866154740063:=0
def tw8416919526401931396:=0
def tw8419087421300793783:=0
def tw8423882662125433533:=0
def tw8427603555285130677:=0
def tw8437136266514945485:=0
def tw8451405269032665178:=0
def tw8452822744766855683:=0
def tw8465664482182502234:=0
def tw8468265963576289453:=0
def tw8468353716013101780:=0
def tw8492766521769281390:=0
def tw8498637287819221299:=0
def tw850809569072076362:=0
def tw8517794114571311738:=0
def tw8532785352064639557:=0
def tw8562232592382565938:=0
def tw8569538669917276668:=0
def tw8573328490290385857:=0
def tw8596354706172156310:=0
def tw8626827892633147176:=0
def tw8645721707036321729:=0
def tw8672176737197362462:=0
def tw8684801978801136614:=0
def tw8705943662248677279:=0
def tw8736862525398566271:=0
def tw8737647596325804027:=0
def tw8779704193873326110:=0
def tw8784485955298133187:=0
def tw8799310695356965882:=0
def tw8835998041029918519:=0
def tw8837651524823059701:=0
def tw8837923394621957915:=0
def tw8865609585659323098:=0
def tw8900671484038667494:=0
def tw8924952804654234261:=0
def tw8955114427774267567:=0
def tw8956307766423743976:=0
def tw8970991758053205627:=0
def tw9005591820471984409:=0
def tw9010629755335540907:=0
def tw9013772558190762582:=0
def tw9016710546076908772:=0
def tw911004718571913121:=0
def tw9169955693093336987:=0
def tw918537338046405411:=0
def tw9214373181965444552:=0
def tw9226710248794358967:=0
def tw9277585322729037309:=0
def tw9290611794647031820:=0
def tw9297832851809859936:=0
def tw9303344036028983401:=0
def tw9386734806381365851:=0
def tw9395468842578903196:=0
def tw9451557876006927712:=0
def tw945524933354769943:=0
def tw9541314897669607304:=0
def tw9558784932287435089:=0
def tw9572896464850810697:=0
def tw9581015734257037787:=0
def tw9621756157388038699:=0
def tw9648681717619772470:=0
def tw9658738902666846509:=0
def tw9675241092511610578:=0
def tw9679955776952186632:=0
def tw9715753951471627304:=0
def tw9715840096567333434:=0
def tw9717289154509219540:=0
def tw9732174128302761119:=0
def tw9733349797909949155:=0
def tw9754280384413194699:=0
def tw9768910040000141338:=0
def tw9853242761715745902:=0
def tw9854155755047659527:=0
def tw9887278999758543952:=0
def tw9888673861022657259:=0
def tw9889953345208561260:=0
def tw9957688357541030698:=0
def tw9984538182758439094:=0
def tw9999136712650093392:=0
end PySem.W.Fast
set_option maxRecDepth 100000 in
set_option maxHeartbeats 0 in
theorem PySem.Challenge.cw_shiftmeet_k83_sure_and_check_holds : PySem.Challenge.rw_shiftmeet_k83_sure_and_check.Holds := by
  w_on;o_law;k_head;(case hw=>w_witness2)
  k_fill
  refine L2.y2n (l:=PySem.Challenge.rw_shiftmeet_k83_sure_and_check) (k:=91) (sp:=SMk83.sp_law) rfl rfl ⟨rfl,by decide,by decide⟩ (fun w h Y=>PySem.W.kIn_of Y) ?F SMk83.sp_start
  case F=>
    intro w mg fa h KX G hmg;refine' SMk83.fin KX G hmg (L2.zl KX G ?a0 ?l0 ?c0 ?k0) (L2.zl KX G ?a1 ?l1 ?c1 ?k1) (L2.zl KX G ?a2 ?l2 ?c2 ?k2) (L2.zl KX G ?a3 ?l3 ?c3 ?k3) (L2.zl KX G ?a4 ?l4 ?c4 ?k4) (L2.zl KX G ?a5 ?l5 ?c5 ?k5) (L2.zl KX G ?a6 ?l6 ?c6 ?k6) (L2.zl KX G ?a7 ?l7 ?c7 ?k7) (L2.zl KX G ?a8 ?l8 ?c8 ?k8) (L2.zl KX G ?a9 ?l9 ?c9 ?k9) (L2.zl KX G ?a10 ?l10 ?c10 ?k10) (L2.zl KX G ?a11 ?l11 ?c11 ?k11) (L2.zl KX G ?a12 ?l12 ?c12 ?k12) (L2.zl KX G ?a13 ?l13 ?c13 ?k13) (L2.zl KX G ?a14 ?l14 ?c14 ?k14) (L2.zl KX G ?a15 ?l15 ?c15 ?k15) (L2.zl KX G ?a16 ?l16 ?c16 ?k16) (L2.zl KX G ?a17 ?l17 ?c17 ?k17) (L2.zl KX G ?a18 ?l18 ?c18 ?k18) (L2.zl KX G ?a19 ?l19 ?c19 ?k19) (L2.zl KX G ?a20 ?l20 ?c20 ?k20) (L2.zl KX G ?a21 ?l21 ?c21 ?k21) (L2.zl KX G ?a22 ?l22 ?c22 ?k22) (L2.zl KX G ?a23 ?l23 ?c23 ?k23) (L2.zl KX G ?a24 ?l24 ?c24 ?k24) (L2.zl KX G ?a25 ?l25 ?c25 ?k25) (L2.zl KX G ?a26 ?l26 ?c26 ?k26) (L2.zl KX G ?a27 ?l27 ?c27 ?k27) (L2.zl KX G ?a28 ?l28 ?c28 ?k28) (L2.zl KX G ?a29 ?l29 ?c29 ?k29) (L2.zl KX G ?a30 ?l30 ?c30 ?k30) (L2.zl KX G ?a31 ?l31 ?c31 ?k31) (L2.zl KX G ?a32 ?l32 ?c32 ?k32) (L2.zl KX G ?a33 ?l33 ?c33 ?k33) (L2.zl KX G ?a34 ?l34 ?c34 ?k34) (L2.zl KX G ?a35 ?l35 ?c35 ?k35) (L2.zl KX G ?a36 ?l36 ?c36 ?k36) (L2.zl KX G ?a37 ?l37 ?c37 ?k37) (L2.zl KX G ?a38 ?l38 ?c38 ?k38) (L2.zl KX G ?a39 ?l39 ?c39 ?k39) (L2.zl KX G ?a40 ?l40 ?c40 ?k40) (L2.zl KX G ?a41 ?l41 ?c41 ?k41) (L2.zl KX G ?a42 ?l42 ?c42 ?k42) (L2.zl KX G ?a43 ?l43 ?c43 ?k43) (L2.zl KX G ?a44 ?l44 ?c44 ?k44) (L2.zl KX G ?a45 ?l45 ?c45 ?k45) (L2.zl KX G ?a46 ?l46 ?c46 ?k46) (L2.zl KX G ?a47 ?l47 ?c47 ?k47) (L2.zl KX G ?a48 ?l48 ?c48 ?k48) (L2.zl KX G ?a49 ?l49 ?c49 ?k49) (L2.zl KX G ?a50 ?l50 ?c50 ?k50) (L2.zl KX G ?a51 ?l51 ?c51 ?k51) (L2.zl KX G ?a52 ?l52 ?c52 ?k52) (L2.zl KX G ?a53 ?l53 ?c53 ?k53) (L2.zl KX G ?a54 ?l54 ?c54 ?k54) (L2.zl KX G ?a55 ?l55 ?c55 ?k55) (L2.zl KX G ?a56 ?l56 ?c56 ?k56) (L2.zl KX G ?a57 ?l57 ?c57 ?k57) (L2.zl KX G ?a58 ?l58 ?c58 ?k58) (L2.zl KX G ?a59 ?l59 ?c59 ?k59) (L2.zl KX G ?a60 ?l60 ?c60 ?k60) (L2.zl KX G ?a61 ?l61 ?c61 ?k61) (L2.zl KX G ?a62 ?l62 ?c62 ?k62) (L2.zl KX G ?a63 ?l63 ?c63 ?k63) (u4o KX G ?z0) (u4o KX G ?z1) (u4o KX G ?z2) (u4o KX G ?z3) (u4o KX G ?z4) (u4o KX G ?z5) (u4o KX G ?z6) (u4o KX G ?z7) (u4o KX G ?z8) (u4o KX G ?z9) (u4o KX G ?z10) (u4o KX G ?z11) (u4o KX G ?z12) (u4o KX G ?z13) (u4o KX G ?z14) (u4o KX G ?z15) (L2.y6V KX G ?de0 ?dl0 ?dm0 ?dx0 ?dd0 ?dc0 ?dn0) (L2.z6e KX G ?q1) (L2.z6e KX G ?q2) (L2.z6e KX G ?q3) (L2.z6e KX G ?q4) (L2.z6e KX G ?q5) (L2.z6e KX G ?q6) (L2.z6e KX G ?q7) (L2.y6U KX G ?q8) (L2.y6U KX G ?q9) (L2.y7B KX G ?t10 ?u10 ?v10 ?w10 ?x10 ?y10) (L2.z4j KX G ?ea0 ?el0 ?ex0) (L2.z4j KX G ?ea1 ?el1 ?ex1) (L2.z4j KX G ?ea2 ?el2 ?ex2) (L2.z4j KX G ?ea3 ?el3 ?ex3) (L2.z4j KX G ?ea4 ?el4 ?ex4) (L2.z4j KX G ?ea5 ?el5 ?ex5) (L2.z4j KX G ?ea6 ?el6 ?ex6) (L2.z4j KX G ?ea7 ?el7 ?ex7) ⟨?oa0,?ob0,?oc0⟩ ?nd ⟨?pg0,?hd0,?po0,?sa0⟩ ?nf0_0 ?mk0 ?kc0 (PySem.W.mg_of KX G ?aC0) (L2.z2K ?ma0_0 ?mi0_0 ?ml0_0 ?mc0_0 ?mp0_0) (L2.z2K ?ma0_1 ?mi0_1 ?ml0_1 ?mc0_1 ?mp0_1) (L2.z2K ?ma0_2 ?mi0_2 ?ml0_2 ?mc0_2 ?mp0_2) ⟨?pg1,?hd1,?po1,?sa1⟩ ?nf1_0 ?nf1_1 ?mk1 ?kc1 (PySem.W.mg_of KX G ?aC1) (L2.z2K ?ma1_0 ?mi1_0 ?ml1_0 ?mc1_0 ?mp1_0) (L2.z2K ?ma1_1 ?mi1_1 ?ml1_1 ?mc1_1 ?mp1_1) (L2.z2K ?ma1_2 ?mi1_2 ?ml1_2 ?mc1_2 ?mp1_2) (L2.z2K ?ma1_3 ?mi1_3 ?ml1_3 ?mc1_3 ?mp1_3) (L2.z2K ?ma1_4 ?mi1_4 ?ml1_4 ?mc1_4 ?mp1_4) (L2.z2K ?ma1_5 ?mi1_5 ?ml1_5 ?mc1_5 ?mp1_5)
    (case aC1=>k_is)
    (case aC0=>k_is)
    (case a0=>k_is);(case l0=>k_is);(case c0=>k_is);(case k0=>k_is)
    (case a1=>k_is);(case l1=>k_is);(case c1=>k_is);(case k1=>k_is)
    (case a2=>k_is);(case l2=>k_is);(case c2=>k_is);(case k2=>k_is)
    (case a3=>k_is);(case l3=>k_is);(case c3=>k_is);(case k3=>k_is)
    (case a4=>k_is);(case l4=>k_is);(case c4=>k_is);(case k4=>k_is)
    (case a5=>k_is);(case l5=>k_is);(case c5=>k_is);(case k5=>k_is)
    (case a6=>k_is);(case l6=>k_is);(case c6=>k_is);(case k6=>k_is)
    (case a7=>k_is);(case l7=>k_is);(case c7=>k_is);(case k7=>k_is)
    (case a8=>k_is);(case l8=>k_is);(case c8=>k_is);(case k8=>k_is)
    (case a9=>k_is);(case l9=>k_is);(case c9=>k_is);(case k9=>k_is)
    (case a10=>k_is);(case l10=>k_is);(case c10=>k_is);(case k10=>k_is)
    (case a11=>k_is);(case l11=>k_is);(case c11=>k_is);(case k11=>k_is)
    (case a12=>k_is);(case l12=>k_is);(case c12=>k_is);(case k12=>k_is)
    (case a13=>k_is);(case l13=>k_is);(case c13=>k_is);(case k13=>k_is)
    (case a14=>k_is);(case l14=>k_is);(case c14=>k_is);(case k14=>k_is)
    (case a15=>k_is);(case l15=>k_is);(case c15=>k_is);(case k15=>k_is)
    (case a16=>k_is);(case l16=>k_is);(case c16=>k_is);(case k16=>k_is)
    (case a17=>k_is);(case l17=>k_is);(case c17=>k_is);(case k17=>k_is)
    (case a18=>k_is);(case l18=>k_is);(case c18=>k_is);(case k18=>k_is)
    (case a19=>k_is);(case l19=>k_is);(case c19=>k_is);(case k19=>k_is)
    (case a20=>k_is);(case l20=>k_is);(case c20=>k_is);(case k20=>k_is)
    (case a21=>k_is);(case l21=>k_is);(case c21=>k_is);(case k21=>k_is)
    (case a22=>k_is);(case l22=>k_is);(case c22=>k_is);(case k22=>k_is)
    (case a23=>k_is);(case l23=>k_is);(case c23=>k_is);(case k23=>k_is)
    (case a24=>k_is);(case l24=>k_is);(case c24=>k_is);(case k24=>k_is)
    (case a25=>k_is);(case l25=>k_is);(case c25=>k_is);(case k25=>k_is)
    (case a26=>k_is);(case l26=>k_is);(case c26=>k_is);(case k26=>k_is)
    (case a27=>k_is);(case l27=>k_is);(case c27=>k_is);(case k27=>k_is)
    (case a28=>k_is);(case l28=>k_is);(case c28=>k_is);(case k28=>k_is)
    (case a29=>k_is);(case l29=>k_is);(case c29=>k_is);(case k29=>k_is)
    (case a30=>k_is);(case l30=>k_is);(case c30=>k_is);(case k30=>k_is)
    (case a31=>k_is);(case l31=>k_is);(case c31=>k_is);(case k31=>k_is)
    (case a32=>k_is);(case l32=>k_is);(case c32=>k_is);(case k32=>k_is)
    (case a33=>k_is);(case l33=>k_is);(case c33=>k_is);(case k33=>k_is)
    (case a34=>k_is);(case l34=>k_is);(case c34=>k_is);(case k34=>k_is)
    (case a35=>k_is);(case l35=>k_is);(case c35=>k_is);(case k35=>k_is)
    (case a36=>k_is);(case l36=>k_is);(case c36=>k_is);(case k36=>k_is)
    (case a37=>k_is);(case l37=>k_is);(case c37=>k_is);(case k37=>k_is)
    (case a38=>k_is);(case l38=>k_is);(case c38=>k_is);(case k38=>k_is)
    (case a39=>k_is);(case l39=>k_is);(case c39=>k_is);(case k39=>k_is)
    (case a40=>k_is);(case l40=>k_is);(case c40=>k_is);(case k40=>k_is)
    (case a41=>k_is);(case l41=>k_is);(case c41=>k_is);(case k41=>k_is)
    (case a42=>k_is);(case l42=>k_is);(case c42=>k_is);(case k42=>k_is)
    (case a43=>k_is);(case l43=>k_is);(case c43=>k_is);(case k43=>k_is)
    (case a44=>k_is);(case l44=>k_is);(case c44=>k_is);(case k44=>k_is)
    (case a45=>k_is);(case l45=>k_is);(case c45=>k_is);(case k45=>k_is)
    (case a46=>k_is);(case l46=>k_is);(case c46=>k_is);(case k46=>k_is)
    (case a47=>k_is);(case l47=>k_is);(case c47=>k_is);(case k47=>k_is)
    (case a48=>k_is);(case l48=>k_is);(case c48=>k_is);(case k48=>k_is)
    (case a49=>k_is);(case l49=>k_is);(case c49=>k_is);(case k49=>k_is)
    (case a50=>k_is);(case l50=>k_is);(case c50=>k_is);(case k50=>k_is)
    (case a51=>k_is);(case l51=>k_is);(case c51=>k_is);(case k51=>k_is)
    (case a52=>k_is);(case l52=>k_is);(case c52=>k_is);(case k52=>k_is)
    (case a53=>k_is);(case l53=>k_is);(case c53=>k_is);(case k53=>k_is)
    (case a54=>k_is);(case l54=>k_is);(case c54=>k_is);(case k54=>k_is)
    (case a55=>k_is);(case l55=>k_is);(case c55=>k_is);(case k55=>k_is)
    (case a56=>k_is);(case l56=>k_is);(case c56=>k_is);(case k56=>k_is)
    (case a57=>k_is);(case l57=>k_is);(case c57=>k_is);(case k57=>k_is)
    (case a58=>k_is);(case l58=>k_is);(case c58=>k_is);(case k58=>k_is)
    (case a59=>k_is);(case l59=>k_is);(case c59=>k_is);(case k59=>k_is)
    (case a60=>k_is);(case l60=>k_is);(case c60=>k_is);(case k60=>k_is)
    (case a61=>k_is);(case l61=>k_is);(case c61=>k_is);(case k61=>k_is)
    (case a62=>k_is);(case l62=>k_is);(case c62=>k_is);(case k62=>k_is)
    (case a63=>k_is);(case l63=>k_is);(case c63=>k_is);(case k63=>k_is)
    (case z0=>k_is)
    (case z1=>k_is)
    (case z2=>k_is)
    (case z3=>k_is)
    (case z4=>k_is)
    (case z5=>k_is)
    (case z6=>k_is)
    (case z7=>k_is)
    (case z8=>k_is)
    (case z9=>k_is)
    (case z10=>k_is)
    (case z11=>k_is)
    (case z12=>k_is)
    (case z13=>k_is)
    (case z14=>k_is)
    (case z15=>k_is)
    (case de0=>k_is);(case dl0=>k_is);(case dm0=>decide);(case dx0=>exact⟨rfl,rfl,rfl⟩);(case dd0=>rfl);(case dc0=>walk_at "cdt_all");(case dn0=>decide +kernel)
    (case q1=>k_is)
    (case q2=>k_is)
    (case q3=>k_is)
    (case q4=>k_is)
    (case q5=>k_is)
    (case q6=>k_is)
    (case q7=>k_is)
    (case q8=>k_is)
    (case q9=>k_is)
    (case t10=>k_is);(case u10=>k_is);(case v10=>rfl);(case w10=>rfl);(case x10=>decide);(case y10=>exact .cons ⟨_,rfl⟩ (.cons ⟨_,rfl⟩ .nil))
    (case ea0=>k_is);(case el0=>k_is);(case ex0=>k_exc)
    (case ea1=>k_is);(case el1=>k_is);(case ex1=>k_exc)
    (case ea2=>k_is);(case el2=>k_is);(case ex2=>k_exc)
    (case ea3=>k_is);(case el3=>k_is);(case ex3=>k_exc)
    (case ea4=>k_is);(case el4=>k_is);(case ex4=>k_exc)
    (case ea5=>k_is);(case el5=>k_is);(case ex5=>k_exc)
    (case ea6=>k_is);(case el6=>k_is);(case ex6=>k_exc)
    (case ea7=>k_is);(case el7=>k_is);(case ex7=>k_exc)
    (case oa0=>k_is);(case ob0=>k_is);(case oc0=>k_is)
    (case nd=>decide +kernel)
    (case pg0=>k_is);(case hd0=>k_is);(case po0=>k_is);(case sa0=>k_is)
    (case nf0_0=>(unfold L2.NoAttr;k_is))
    (case mk0=>k_is);(case kc0=>k_is)
    (case ma0_0=>k_is);(case mi0_0=>k_is);(case ml0_0=>k_is);(case mc0_0=>k_is);(case mp0_0=>k_is)
    (case ma0_1=>k_is);(case mi0_1=>k_is);(case ml0_1=>k_is);(case mc0_1=>k_is);(case mp0_1=>k_is)
    (case ma0_2=>k_is);(case mi0_2=>k_is);(case ml0_2=>k_is);(case mc0_2=>k_is);(case mp0_2=>k_is)
    (case pg1=>k_is);(case hd1=>k_is);(case po1=>k_is);(case sa1=>k_is)
    (case nf1_0=>(unfold L2.NoAttr;k_is))
    (case nf1_1=>(unfold L2.NoAttr;k_is))
    (case mk1=>k_is);(case kc1=>k_is)
    (case ma1_0=>k_is);(case mi1_0=>k_is);(case ml1_0=>k_is);(case mc1_0=>k_is);(case mp1_0=>k_is)
    (case ma1_1=>k_is);(case mi1_1=>k_is);(case ml1_1=>k_is);(case mc1_1=>k_is);(case mp1_1=>k_is)
    (case ma1_2=>k_is);(case mi1_2=>k_is);(case ml1_2=>k_is);(case mc1_2=>k_is);(case mp1_2=>k_is)
    (case ma1_3=>k_is);(case mi1_3=>k_is);(case ml1_3=>k_is);(case mc1_3=>k_is);(case mp1_3=>k_is)
    (case ma1_4=>k_is);(case mi1_4=>k_is);(case ml1_4=>k_is);(case mc1_4=>k_is);(case mp1_4=>k_is)
    (case ma1_5=>k_is);(case mi1_5=>k_is);(case ml1_5=>k_is);(case mc1_5=>k_is);(case mp1_5=>k_is)
